/-
  Arguments that are pairs, and lists of pairs, opened; a pair in a block of its own.
  No condition.
-/
import Derived.Test.YtkpopaadkfgjaaaSegY
import Derived.Test.YtkpopaadkfgjaaaRows
import Derived.Lib.SmallJoins
import Derived.Deep.SlicePairs
import Derived.ProofKit
import Derived.OpenShut
import Derived.Carry
import Derived.ChangeOld
import Derived.SizedLaws
namespace Go.Proofs.Ytkpopaadkfgjaaa
open Go.ChangeShapes Go.WideShapes Go.ChangeAt Go.RowKit Go.Deep
set_option linter.unusedVariables false
set_option linter.unusedSimpArgs false
set_option maxRecDepth 100000

theorem cells_put : Try.prog.cellsOf 67 = 2 := by kernel_rfl
theorem cells_u64 : Try.prog.cellsOf 30 = 1 := by kernel_rfl
section
variable {H : Type} {enc : TypeId × Value → H} {w : World}
theorem open_puts {r : Reach} {b0 : Nat} {v : Value} {d : DataW H} {p : List MemPlace} (hv : Value.okWide Try.prog w r b0 22 v) (h : DataW.Trod enc Try.prog w 0 (fun _ => true) true 22 v d p) :
    ∃ la n c X V, v = .slice la n c ∧ n ≤ maxLen ∧ PutsAt w la n X V := by
  obtain ⟨a0, l0, c0, rfl⟩ := okWide_slice Try.underlying22 hv
  obtain ⟨fuel, hf⟩ := h
  rcases open_slice_pairs Try.underlying22 Try.underlying67 cells_put rfl rfl cells_u64 cells_u64 hf with ⟨h0, _⟩ | ⟨a, len, cap, m, n, V0, V1, D0, D1, P0, P1, hcs, _, hl, hm, hmeq, hx, hall⟩
  · simp [Value.cells] at h0
    obtain ⟨rfl, rfl, rfl⟩ := h0
    exact ⟨none, 0, 0, fun _ => 0, fun _ => 0, rfl, Nat.zero_le _, ⟨fun _ => ⟨by decide, by decide⟩, fun h => by omega⟩⟩
  · simp [Value.cells] at hcs
    obtain ⟨rfl, rfl, rfl⟩ := hcs
    simp only [if_true] at hmeq
    subst hmeq
    have key : ∀ i, i < l0 → ∃ x y : Nat, V0 i = .int .u64 x ∧ V1 i = .int .u64 y ∧ x < 18446744073709551616 ∧ y < 18446744073709551616 := by
      intro i hi
      obtain ⟨_, _, t0, t1⟩ := hall i (by omega)
      obtain ⟨k0, e0, _, w0⟩ := DataW.trod_int Try.underlying30 t0
      obtain ⟨k1, e1, _, w1⟩ := DataW.trod_int Try.underlying30 t1
      simp only [List.cons.injEq, and_true] at e0 e1
      have b0 := bounds_u64 w0
      have b1 := bounds_u64 w1
      obtain ⟨x, rfl⟩ := Int.eq_ofNat_of_zero_le b0.1
      obtain ⟨y, rfl⟩ := Int.eq_ofNat_of_zero_le b1.1
      exact ⟨x, y, e0, e1, by omega, by omega⟩
    refine ⟨some a, l0, m, fun i => if h : i < l0 then (key i h).choose else 0, fun i => if h : i < l0 then (key i h).choose_spec.choose else 0, rfl, by omega, ⟨fun i => ?_, fun hn => ?_⟩⟩
    · by_cases hi : i < l0
      · simp only [hi, dif_pos]
        exact ⟨(key i hi).choose_spec.choose_spec.2.2.1, (key i hi).choose_spec.choose_spec.2.2.2⟩
      · simp only [hi, dif_neg, not_false_eq_true]
        exact ⟨by decide, by decide⟩
    · obtain ⟨c00, _⟩ := hall 0 (by omega)
      obtain ⟨b, off, spot⟩ := a
      have hsp : spot = none := by
        rcases spot with _ | s
        · rfl
        · simp [World.cell?, Addr.add] at c00
          split at c00 <;> simp_all
      subst hsp
      have hadd : ∀ j, (⟨b, off, none⟩ : Addr).add j = ⟨b, off + j, none⟩ := fun j => by unfold Addr.add; split <;> simp_all
      refine ⟨b, off, rfl, ?_, fun i hi => ?_⟩
      · rw [hadd] at c00
        rcases Nat.lt_or_ge b w.heap.size with h | h
        · exact h
        · simp [World.cell?, Array.getElem?_eq_none h] at c00
      · obtain ⟨c0, c1, _⟩ := hall i (by omega)
        rw [hadd] at c0 c1
        simp only [hi, dif_pos]
        obtain ⟨h1, h2, _⟩ := (key i hi).choose_spec.choose_spec
        exact ⟨c0.trans (congrArg some h1), by rw [Nat.add_assoc]; exact c1.trans (congrArg some h2)⟩
theorem open_put {r : Reach} {b0 : Nat} {v : Value} {d : DataW H} {p : List MemPlace} (hv : Value.okWide Try.prog w r b0 67 v) (h : DataW.Trod enc Try.prog w 0 (fun _ => true) true 67 v d p) :
    ∃ x y : Nat, v = .agg #[.int .u64 x, .int .u64 y] ∧ x < 18446744073709551616 ∧ y < 18446744073709551616 := by
  obtain ⟨v0, v1, y0, y1, n, rfl, _, _, t0, t1⟩ := Joins.open_agg2 Try.underlying67 (by kernel_rfl) cells_put hv h
  obtain ⟨k0, e0, _, w0⟩ := DataW.trod_int Try.underlying30 t0
  obtain ⟨k1, e1, _, w1⟩ := DataW.trod_int Try.underlying30 t1
  simp only [List.cons.injEq, and_true] at e0 e1
  have b0 := bounds_u64 w0
  have b1 := bounds_u64 w1
  obtain ⟨x, rfl⟩ := Int.eq_ofNat_of_zero_le b0.1
  obtain ⟨y, rfl⟩ := Int.eq_ofNat_of_zero_le b1.1
  exact ⟨x, y, by rw [e0, e1], by omega, by omega⟩
end
theorem bytes_put : Try.prog.bytesOf 67 = 16 := by kernel_rfl
/-- A list of pairs that was read is no longer than the form's own reach. -/
theorem puts_reach {H : Type} {enc : TypeId × Value → H} {w : World} {la : Option Addr} {n c : Nat} {d : DataW H} {p : List MemPlace} {ts : List TypeId} {ds : List (DataW H)} (hsz : (DataW.weightsEach Try.prog ts ds).all (· ≤ reachBytes) = true) {j : Nat} (ht : ts[j]? = some 22) (hd : ds[j]? = some d)
    (h : DataW.Trod enc Try.prog w 0 (fun _ => true) true 22 (.slice la n c) d p) : n * 16 ≤ 140737488351232 := by
  obtain ⟨fuel, hf⟩ := h
  rcases open_slice_pairs Try.underlying22 Try.underlying67 cells_put rfl rfl cells_u64 cells_u64 hf with ⟨h0, _⟩ | ⟨a, len, cap, m, n', V0, V1, D0, D1, P0, P1, hcs, _, hl, hm, hmeq, hx, hall⟩
  · simp [Value.cells] at h0
    obtain ⟨rfl, rfl, rfl⟩ := h0
    omega
  · simp [Value.cells] at hcs
    obtain ⟨rfl, rfl, rfl⟩ := hcs
    injection hx with hx _
    rw [hx] at hd
    have := sized_slice hsz ht hd Try.underlying22
    rw [bytes_put] at this
    simp only [List.length_map, List.length_range] at this
    unfold reachBytes at this
    have h2 : n * 16 ≤ (n + (m - n)) * 16 := Nat.mul_le_mul_right _ (by omega)
    omega
theorem ret_bool' {b : Bool} (h : b = true) : Ending.returned (.bool b) = .returned (.bool true) := by rw [h]
/-- A pair in a block of its own. -/
def PairAt (w : World) (b x y : Nat) : Prop := w.heap[b]? = some (.cells #[.int .u64 (x : Nat), .int .u64 (y : Nat)] 67 (0, 0))
theorem PairAt.made (w : World) (x y : Nat) : PairAt (w.alloc (.cells #[.int .u64 (x : Nat), .int .u64 (y : Nat)] 67)) w.heap.size x y := heap_alloc_new' _ _
theorem PairAt.kept {w w' : World} {b x y : Nat} (h : PairAt w b x y) {row : Option Nat} (hg : w.grownBy w' row) (hne : row ≠ some b) : PairAt w' b x y := (hg.block b (lt_of_block h) hne.symm).trans h
theorem PairAt.later {w w' : World} {b x y : Nat} (h : PairAt w b x y) (hg : w.grownBy w' none) : PairAt w' b x y := h.kept hg (by simp)
theorem PairAt.c0 {w : World} {b x y : Nat} (h : PairAt w b x y) : w.cell? ⟨b, 0, none⟩ = some (.int .u64 (x : Nat)) := by unfold PairAt at h; simp [World.cell?, h]
theorem PairAt.c1 {w : World} {b x y : Nat} (h : PairAt w b x y) : w.cell? ⟨b, 1, none⟩ = some (.int .u64 (y : Nat)) := by unfold PairAt at h; simp [World.cell?, h]
theorem PairAt.lt {w : World} {b x y : Nat} (h : PairAt w b x y) : b < w.heap.size := lt_of_block h
end Go.Proofs.Ytkpopaadkfgjaaa
