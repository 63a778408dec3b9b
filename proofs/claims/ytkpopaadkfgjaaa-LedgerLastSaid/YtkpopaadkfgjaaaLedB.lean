/-
  The plain answer of layer 9: Without, In and First.
  Conditions: the numbers lie in memory; they are at most a million.
-/
import Derived.Test.YtkpopaadkfgjaaaLedL
import Derived.Test.YtkpopaadkfgjaaaTreeSa
import Derived.Test.YtkpopaadkfgjaaaCliB
namespace Go.Proofs.Ytkpopaadkfgjaaa
open Go.RowKit
set_option linter.unusedVariables false
set_option linter.unusedSimpArgs false
set_option maxRecDepth 100000

theorem take_less {L : List Nat} {k y x : Nat} (hk : k < L.length) (hx : L.getD k 0 = x) : (L.take (k + 1)).filter (fun a => decide (a ≠ y)) = (L.take k).filter (fun a => decide (a ≠ y)) ++ if x = y then [] else [x] := by
  have h1 : L.take (k + 1) = L.take k ++ [x] := by
    rw [List.take_add_one, ← hx, List.getD_eq_getElem?_getD, List.getElem?_eq_getElem hk]
    rfl
  rw [h1, List.filter_append]
  congr 1
  by_cases e : x = y
  · rw [if_pos e]; simp [e]
  · rw [if_neg e]; simp [e]
set_option maxHeartbeats 2000000 in
theorem rwithout_any {w : World} {la : Option Addr} {n c : Nat} {xs : List Nat} (h : WordsAt w la xs) (hn : xs.length = n) (hl : n ≤ 1000000) (y : Nat) :
    Calls Try.prog 20 #[.slice la n c, .int .u64 y] w fun e w' => ∃ v, e = .returned v ∧ OwnW w' w.heap.size v (xs.filter fun a => decide (a ≠ y)) ∧ w.grownBy w' none := by
  have HN := Lib.hid hn
  have HW := Lib.hid h
  obtain ⟨ys, hys⟩ : ∃ ys, (xs.filter fun a => decide (a ≠ y)) = ys := ⟨_, rfl⟩
  rw [hys]
  have HY := Lib.hid hys
  clear h hys
  go_enter Try.func20, Try.ntmps20
  go_wp2
  go_loopw [5, 6] (fun v i wr => ∃ k : Nat, k ≤ n ∧ i = .int .i64 k ∧ OwnW wr w.heap.size v ((xs.take k).filter fun a => decide (a ≠ y)) ∧ w.grownBy wr none) (fun _ i _ => n - (intOf i).toNat)
  case atStart => exact ⟨0, Nat.zero_le _, rfl, World.ownsRow_nil _ _ _ _, grown_refl _ _⟩
  case round =>
    obtain ⟨k, hk, rfl, hown, hgr⟩ := hrel
    by_cases h1 : k < n
    · have h1' : (k : Int) < (n : Int) := by omega
      obtain ⟨b, off, rfl, hb, hcs⟩ := (HW.out.later hgr).cells (by rw [HN.out]; omega)
      have c0 := hcs k (by rw [HN.out]; exact h1)
      obtain ⟨x, hx⟩ : ∃ x, xs.getD k 0 = x := ⟨_, rfl⟩
      rw [hx] at c0
      have hst := take_less (y := y) (by rw [HN.out]; exact h1) hx
      have HS := Lib.hid hst
      have hfl : ((xs.take k).filter fun a => decide (a ≠ y)).length ≤ 1000000 := Nat.le_trans (List.length_filter_le _ _) (by rw [List.length_take]; omega)
      have hsz := hgr.size
      have HF := Lib.hid hfl
      have HO := Lib.hid hown
      clear hcs hx hst hfl
      by_cases hxy : x = y
      · subst hxy
        clear hown
        go_wp2
        go_roundw
        case rel => exact ⟨k + 1, by omega, by go_num, by rw [HS.out, if_pos rfl, List.append_nil]; exact HO.out, hgr⟩
        case measure => simp [intOf]; omega
      · have hxy' : ¬ (x : Int) = (y : Int) := by omega
        clear hown
        go_wp2_with (at_builtin; go_must (refine wpList_append_num rfl _ _ rfl w.heap.size _ _ rfl HO.out x rfl (Nat.le_trans HF.out (by decide)) hsz ?_); intro v8 w8 hown8 hg8 hloc8)
        go_roundw
        case rel => exact ⟨k + 1, by omega, by go_num, by rw [HS.out, if_neg hxy]; exact hown8, grown_step hgr hg8 (fun i hi => .inl (World.ownsRow.lt HO.out i hi).1)⟩
        case measure => simp [intOf]; omega
    · obtain rfl : k = n := by omega
      rw [← HN.out, List.take_length, HY.out] at hown
      obtain ⟨va, vn, vc, hv⟩ := wv_form hown
      subst hv
      have h1' : ¬ (k : Int) < (k : Int) := by omega
      go_wp2
      go_ret
      exact ⟨_, rfl, hown, hgr⟩
theorem without_lt {L : List Nat} {y : Nat} : ((L.filter fun a => decide (a ≠ y)).length < L.length) ↔ y ∈ L := by
  constructor
  · intro h
    rcases Decidable.em (y ∈ L) with hy | hy
    · exact hy
    · rw [List.filter_eq_self.2 (by intro a ha; rw [decide_eq_true_eq]; intro e; exact hy (e ▸ ha))] at h
      omega
  · intro h
    have h1 := List.length_filter_le (fun a => decide (a ≠ y)) L
    rcases Nat.lt_or_ge (L.filter fun a => decide (a ≠ y)).length L.length with h2 | h2
    · exact h2
    · have h3 := (List.length_filter_eq_length_iff (p := fun a => decide (a ≠ y)) (l := L)).1 (by omega) y h
      simp at h3
theorem rin9_any {w : World} {la : Option Addr} {n c : Nat} {xs : List Nat} (h : WordsAt w la xs) (hn : xs.length = n) (hl : n ≤ 1000000) (y : Nat) :
    Calls Try.prog 16 #[.slice la n c, .int .u64 y] w fun e w' => e = .returned (.bool (decide (y ∈ xs))) ∧ w.grownBy w' none := by
  have hc := rwithout_any (c := c) h hn hl y
  obtain ⟨m, hm⟩ : ∃ m, (xs.filter fun a => decide (a ≠ y)).length = m := ⟨_, rfl⟩
  have hd : decide (y ∈ xs) = decide (m < n) := by
    rw [decide_eq_decide, ← without_lt, hm, hn]
  rw [hd]
  clear hd h
  go_enter Try.func16, Try.ntmps16
  go_wp2_with (go_at_call 20; (with_reducible refine hc.mono ?_); rintro e w1 ⟨v, rfl, hown, hg1⟩; obtain ⟨va, vc, hv⟩ := hown.slice; rw [hm] at hv; subst hv)
  go_ret
  exact ⟨rfl, hg1⟩
set_option maxHeartbeats 1000000 in
theorem rfirst_any {w : World} {la : Option Addr} {n c : Nat} {xs : List Nat} (h : WordsAt w la xs) (hn : xs.length = n) (hl : n ≤ 100000) (y : Nat) :
    Calls Try.prog 33 #[.slice la n c, .int .u64 y] w fun e w' => ∃ v, e = .returned v ∧ OwnW w' w.heap.size v (y :: xs) ∧ w.grownBy w' none := by
  have hg0 : w.grownBy (w.alloc (.cells #[.int .u64 (y : Nat)] 30)) none := World.grownBy_alloc _ _ _
  have hown0 : OwnW (w.alloc (.cells #[.int .u64 (y : Nat)] 30)) w.heap.size (.slice (some ⟨w.heap.size, 0, none⟩) 1 1) [y] := World.ownsRow_lit (base := w.heap.size) (e := 30) (size := 1) w #[.int .u64 (y : Nat)] 1 (Nat.le_refl _) (by decide) rfl
  have hsz := hg0.size
  have HW := Lib.hid (h.later hg0)
  subst hn
  clear h
  go_enter Try.func33, Try.ntmps33
  go_wp2_with (at_builtin; go_must (refine wpList_append_words hown0 HW.out (by simp; omega) hsz rfl _ _ rfl rfl rfl ?_); intro v' w1 hown1 hg1)
  obtain ⟨va, vn, vc, hv⟩ := wv_form hown1
  subst hv
  go_ret
  exact ⟨_, rfl, hown1, grown_step hg0 hg1 (fun i hi => .inl (World.ownsRow.lt hown0 i hi).1)⟩
end Go.Proofs.Ytkpopaadkfgjaaa
