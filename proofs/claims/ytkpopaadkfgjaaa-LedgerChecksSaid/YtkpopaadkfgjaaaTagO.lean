/-
  An argument that is a plain tag, opened.
  No condition.
-/
import Derived.Test.YtkpopaadkfgjaaaLTx
namespace Go.Proofs.Ytkpopaadkfgjaaa
open Go.ChangeShapes Go.WideShapes Go.ChangeAt Go.RowKit
set_option linter.unusedVariables false
set_option linter.unusedSimpArgs false
set_option maxRecDepth 100000

theorem cells_rtag : Try.prog.cellsOf 78 = 3 := by kernel_rfl
section
variable {H : Type} {enc : TypeId × Value → H} {w : World}
theorem open_tag {r : Reach} {b0 : Nat} {v : Value} {d : DataW H} {p : List MemPlace} (hv : Value.okWide Try.prog w r b0 78 v) (h : DataW.Trod enc Try.prog w 0 (fun _ => true) true 78 v d p) :
    ∃ (s : Nat) (u : Bool) (o : Int), v = .agg #[.int .u64 s, .bool u, .int .i64 o] ∧ s < 18446744073709551616 := by
  obtain ⟨v0, v1, v2, y0, y1, y2, n, rfl, _, _, t0, t1, t2⟩ := Joins.open_agg3 Try.underlying78 (by kernel_rfl) cells_rtag hv h
  obtain ⟨k0, e0, _, w0⟩ := DataW.trod_int Try.underlying30 t0
  obtain ⟨k1, e1, _⟩ := DataW.trod_bool Try.underlying4 t1
  obtain ⟨k2, e2, _, w2⟩ := DataW.trod_int Try.underlying3 t2
  simp only [List.cons.injEq, and_true] at e0 e1 e2
  have b0 := bounds_u64 w0
  obtain ⟨x, rfl⟩ := Int.eq_ofNat_of_zero_le b0.1
  exact ⟨x, k1, k2, by rw [e0, e1, e2], by omega⟩
end
end Go.Proofs.Ytkpopaadkfgjaaa
