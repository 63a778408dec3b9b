/-
  An argument of two words, opened.
  No condition.
-/
import Derived.Test.YtndoedcaoklfgaaRows
import Derived.Lib.SmallJoins
import Derived.ProofKit
import Derived.OpenShut
import Derived.Carry
import Derived.ChangeOld
namespace Go.Proofs.Ytndoedcaoklfgaa
open Go.ChangeShapes Go.WideShapes Go.ChangeAt Go.RowKit
set_option maxRecDepth 100000
set_option linter.unusedVariables false
set_option linter.unusedSimpArgs false

/-! ### Two words that are handed in -/
theorem cells_pair1 : Try.prog.cellsOf 24 = 1 := by kernel_rfl
theorem cells_pair2 : Try.prog.cellsOf 52 = 2 := by kernel_rfl
section
variable {H : Type} {enc : TypeId × Value → H} {w : World} {base : Nat} {spare : Nat → Bool} {held : Bool}
theorem okWide_pair {r : Reach} {b0 : Nat} {v : Value} (h : Value.okWide Try.prog w r b0 52 v) : ∃ cs, v = .agg cs ∧ cs.size = Try.prog.cellsOf 52 := by
  have ht := Try.underlying52
  unfold Value.okWide at h
  simp only [ht] at h
  cases v <;> simp_all
theorem open_pair {r : Reach} {b0 : Nat} {v : Value} {d : DataW H} {p : List MemPlace} (hv : Value.okWide Try.prog w r b0 52 v) (h : DataW.Trod enc Try.prog w base spare held 52 v d p) :
    ∃ x0 x1 : Int, v = .agg #[.int .u64 x0, .int .u64 x1] ∧ (Lit.int .u64 x0).wf = true ∧ (Lit.int .u64 x1).wf = true := by
  obtain ⟨cs, rfl, hsz⟩ := okWide_pair hv
  obtain ⟨c0, c1, rfl⟩ := Joins.array2 (hsz.trans cells_pair2)
  obtain ⟨fuel, hf⟩ := h
  obtain ⟨xs, m, _, _, _, hl, hx⟩ := DataW.trod_array Try.underlying52 hf
  have a0 := hx 0 (by decide)
  have a1 := hx 1 (by decide)
  rw [cells_pair1] at a0 a1
  obtain ⟨y0, e0⟩ : ∃ y, xs[0]? = some y := ⟨_, List.getElem?_eq_getElem (by omega)⟩
  obtain ⟨y1, e1⟩ : ∃ y, xs[1]? = some y := ⟨_, List.getElem?_eq_getElem (by omega)⟩
  rw [e0] at a0
  rw [e1] at a1
  obtain ⟨n0, g0, _, w0⟩ := DataW.trod_int Try.underlying24 a0
  obtain ⟨n1, g1, _, w1⟩ := DataW.trod_int Try.underlying24 a1
  simp [Value.cells] at g0 g1
  exact ⟨n0, n1, by rw [g0, g1], w0, w1⟩
end

end Go.Proofs.Ytndoedcaoklfgaa
