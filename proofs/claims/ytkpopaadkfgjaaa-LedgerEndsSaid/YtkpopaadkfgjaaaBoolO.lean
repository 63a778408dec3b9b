/-
  A list of bools that is handed in, opened.
  No condition.
-/
import Derived.Test.YtkpopaadkfgjaaaStepO
namespace Go.Proofs.Ytkpopaadkfgjaaa
open Go.ChangeShapes Go.WideShapes Go.ChangeAt Go.RowKit Go.Deep
set_option linter.unusedVariables false
set_option linter.unusedSimpArgs false
set_option maxRecDepth 100000
section
variable {H : Type} {enc : TypeId × Value → H} {w : World}
theorem open_bools {r : Reach} {b0 : Nat} {v : Value} {d : DataW H} {p : List MemPlace} (hv : Value.okWide Try.prog w r b0 48 v) (h : DataW.Trod enc Try.prog w 0 (fun _ => true) true 48 v d p) :
    ∃ la n c A, v = .slice la n c ∧ n ≤ c ∧ n ≤ maxLen ∧ BoolsAt w la n A := by
  obtain ⟨a0, l0, c0, rfl⟩ := okWide_slice Try.underlying48 hv
  obtain ⟨fuel, hf⟩ := h
  rcases open_slice Try.underlying48 hf with ⟨h0, _⟩ | ⟨a, len, cap, m, n, D, Pl, hcs, _, hl, hm, hmeq, hx, hall⟩
  · simp [Value.cells] at h0
    obtain ⟨rfl, rfl, rfl⟩ := h0
    exact ⟨none, 0, 0, fun _ => false, rfl, Nat.le_refl _, Nat.zero_le _, ⟨fun h => by omega⟩⟩
  · simp [Value.cells] at hcs
    obtain ⟨rfl, rfl, rfl⟩ := hcs
    simp only [if_true] at hmeq
    subst hmeq
    have key : ∀ i, i < l0 → ∃ x : Bool, w.cell? (a.add i) = some (.bool x) := by
      intro i hi
      obtain ⟨cs, h1, h2⟩ := hall i (by omega)
      rw [cells_bool9, Nat.mul_one] at h1
      obtain ⟨_, hlen, hcell⟩ := World.cells?_some h1
      obtain ⟨k0, g0, _⟩ := DataW.trod_bool Try.underlying4 h2
      have e0 := hcell 0 (by omega)
      rw [add_add, Nat.add_zero] at e0
      rw [g0] at e0
      exact ⟨k0, by simpa using e0⟩
    obtain ⟨q, hq⟩ := choose_lt (α := Bool) (p := fun i q => w.cell? (a.add i) = some (.bool q)) key
    refine ⟨some a, l0, m, q, rfl, hl, Nat.le_trans hl hm, ⟨fun hn => ?_⟩⟩
    obtain ⟨b, off, rfl, hb⟩ := plain_spot (hq 0 hn)
    have hadd : ∀ j, (⟨b, off, none⟩ : Addr).add j = ⟨b, off + j, none⟩ := fun j => by unfold Addr.add; split <;> simp_all
    refine ⟨b, off, rfl, hb, fun i hi => ?_⟩
    have c0 := hq i hi
    rw [hadd] at c0
    exact c0
end
end Go.Proofs.Ytkpopaadkfgjaaa
