/-
  Package seg: the contract of Copy: another segment of the same words; nothing that was there has turned.
  Conditions: the segment is nobody's, or stands in memory.
-/
import Derived.Test.YtojkebnjohanaaaSegE
import Derived.Deep.RegionLaw
namespace Go.Proofs.Ytojkebnjohanaaa
open Go.RowKit
set_option linter.unusedVariables false
set_option linter.unusedSimpArgs false

theorem copy_nil (w : World) : Calls Try.prog 16 #[.pointer none] w fun e w' => e = .returned (.pointer none) ∧ w = w' := by
  go_enter Try.func16, Try.ntmps16
  go_wp2
  go_ret
  exact ⟨rfl, rfl⟩
/-- copy of a whole row of bytes over another one -/
theorem copy_whole {w : World} {D G n : Nat} {f g : Nat → Nat} (h : w.heap[D]? = some (.cells (rowOf f n) 5 (0, 0))) (h' : w.heap[G]? = some (.cells (rowOf g n) 5 (0, 0))) (c c' : Nat) (t : TypeId) :
    (Builtin.copy_ #[54, 54] t #[.slice (some ⟨G, 0, none⟩) n c, .slice (some ⟨D, 0, none⟩) n c']).run Try.prog w = .ok (goInt n) (w.setRow G (rowOf f n)) := by
  have hl : (rowOf f n).toList.length = n := by simp [size_rowOf]
  have hr := run_copy_row (P := Try.prog) w 54 54 t 5 G 0 n c ⟨D, 0, none⟩ n c' (rowOf g n) 5 (rowOf f n).toList Try.underlying54 size_byte h' (by rw [hl]; exact (Nat.min_self n).symm)
    (by
      intro j v hj
      have hjn : j < n := by
        rcases Nat.lt_or_ge j n with h' | h'
        · exact h'
        · rw [List.getElem?_eq_none (by rw [hl]; exact h')] at hj; exact absurd hj (by simp)
      have hv : v = .int .u8 (f j : Nat) := by
        have := rowOf_at f n j hjn
        rw [Array.getElem?_toList, this] at hj
        exact (Option.some.inj hj).symm
      have hadd : (⟨D, 0, none⟩ : Addr).add j = ⟨D, j, none⟩ := by unfold Addr.add; split <;> simp_all
      rw [hadd, hv]
      exact cell_of_row h j hjn)
    (by rw [hl, size_rowOf]; omega) (rowOf_one _ _)
  rw [hr, hl]
  congr 2
  rw [List.take_zero, List.nil_append, List.drop_of_length_le (by simp [size_rowOf]), List.append_nil]
theorem drew_heap (w : World) : w.drew.heap = w.heap := rfl
theorem grown_setRow (w : World) (g : Nat) (cs : Array Value) : w.grownBy (w.setRow g cs) (some g) :=
  ⟨rfl, rfl, rfl, by simp, fun k _ hn => setRow_other w g k cs (fun e => hn (congrArg some e))⟩
theorem copy_yes {w : World} {B D : Nat} {ws : List Nat} (h : IsSeg w B D ws) :
    Calls Try.prog 16 #[.pointer (some ⟨B, 0, none⟩)] w fun e w' => e = .returned (.pointer (some ⟨w.heap.size + 1, 0, none⟩)) ∧ w.grownBy w' none ∧ IsSeg w' (w.heap.size + 1) w.heap.size ws := by
  have h0 := h.hd
  have hm := h.most
  obtain ⟨L, hL⟩ : ∃ L, 8 * ws.length = L := ⟨_, rfl⟩
  have hL1 : L ≤ 1048576 := by omega
  obtain ⟨w1, hw1⟩ : ∃ w1 : World, w1 = (w.alloc (.cells (rowOf (fun _ => 0) L) 5)).alloc (.cells #[.slice (some ⟨w.heap.size, 0, none⟩) L L] 56) := ⟨_, rfl⟩
  have hg1 : w.grownBy w1 none := by rw [hw1]; exact grown_trans (World.grownBy_alloc _ _ _) (World.grownBy_alloc _ _ _)
  have hs1 : IsSeg w1 B D ws := h.later hg1
  have q0 := hs1.hd
  have q1 : w1.cell? ⟨w.heap.size + 1, 0, none⟩ = some (.slice (some ⟨w.heap.size, 0, none⟩) L L) := by rw [hw1]; go_cell
  have q2 : w1.heap[w.heap.size]? = some (.cells (rowOf (fun _ => 0) L) 5 (0, 0)) := by
    rw [hw1, Below.heap_alloc _ _ _ (by simp)]
    exact heap_alloc_new' _ _
  have hmk := make_bytes .i64 L hL1
  have hd := hs1.data
  rw [hL] at hd q0 h0
  have hcp := fun (t : TypeId) => copy_whole (w := w1.drew) hd q2 L L t
  have HW := Lib.hid hw1
  have HL := Lib.hid hL
  have HQ := Lib.hid q2
  have HG := Lib.hid hg1
  clear hL hm hg1 q2
  go_enter Try.func16, Try.ntmps16
  go_wp2
  rw [← HW.out]
  clear hw1
  go_region
  all_goals
    go_wp2
    go_ret
    refine ⟨rfl, grown_new (grown_trans (grown_drew (grown_any HG.out _)) (grown_setRow _ _ _)) (Nat.le_refl _), ?_⟩
    have e1 := HW.out
    have e2 := HL.out
    subst e2
    exact {
      head := by
        rw [setRow_other _ _ _ _ (by omega), drew_heap, e1]
        have := heap_alloc_new' (w.alloc (.cells (rowOf (fun _ => 0) (8 * ws.length)) 5)) (.cells #[.slice (some ⟨w.heap.size, 0, none⟩) (8 * ws.length) (8 * ws.length)] 56)
        rw [World.size_alloc] at this
        exact this
      data := setRow_heap _ _ _ _ _ _ HQ.out
      ne := by omega
      words := h.words
      some1 := h.some1
      most := h.most }
end Go.Proofs.Ytojkebnjohanaaa
