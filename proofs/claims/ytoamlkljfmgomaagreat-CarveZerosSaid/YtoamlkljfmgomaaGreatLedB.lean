/-
  The plain answer of layer 9: Without, In and First.
  Conditions: the numbers lie in memory; they are at most a million.
-/
import Derived.Test.YtoamlkljfmgomaaGreatLedL
import Derived.Test.YtoamlkljfmgomaaGreatLTreez
import Derived.Test.YtoamlkljfmgomaaGreatCliB
namespace Go.Proofs.YtoamlkljfmgomaaGreat
open Go.RowKit
set_option linter.unusedVariables false
set_option linter.unusedSimpArgs false
set_option maxRecDepth 100000

theorem take_less {L : List Nat} {k y x : Nat} (hk : k < L.length) (hx : L.getD k 0 = x) : (L.take (k + 1)).filter (fun a => decide (a ≠ y)) = (L.take k).filter (fun a => decide (a ≠ y)) ++ if x = y then [] else [x] := by
  have h1 : L.take (k + 1) = L.take k ++ [x] := by
    rw [List.take_add_one, ← hx, List.getD_eq_getElem?_getD, List.getElem?_eq_getElem hk]
    rfl
  rw [h1, List.filter_append]
  congr 1
  by_cases e : x = y
  · rw [if_pos e]; simp [e]
  · rw [if_neg e]; simp [e]
theorem without_lt {L : List Nat} {y : Nat} : ((L.filter fun a => decide (a ≠ y)).length < L.length) ↔ y ∈ L := by
  constructor
  · intro h
    rcases Decidable.em (y ∈ L) with hy | hy
    · exact hy
    · rw [List.filter_eq_self.2 (by intro a ha; rw [decide_eq_true_eq]; intro e; exact hy (e ▸ ha))] at h
      omega
  · intro h
    have h1 := List.length_filter_le (fun a => decide (a ≠ y)) L
    rcases Nat.lt_or_ge (L.filter fun a => decide (a ≠ y)).length L.length with h2 | h2
    · exact h2
    · have h3 := (List.length_filter_eq_length_iff (p := fun a => decide (a ≠ y)) (l := L)).1 (by omega) y h
      simp at h3
set_option maxHeartbeats 1000000 in
theorem rfirst_any {w : World} {la : Option Addr} {n c : Nat} {xs : List Nat} (h : WordsAt w la xs) (hn : xs.length = n) (hl : n ≤ 100000) (y : Nat) :
    Calls Tryz.prog 43 #[.slice la n c, .int .u64 y] w fun e w' => ∃ v, e = .returned v ∧ OwnW w' w.heap.size v (y :: xs) ∧ w.grownBy w' none := by
  have hg0 : w.grownBy (w.alloc (.cells #[.int .u64 (y : Nat)] 23)) none := World.grownBy_alloc _ _ _
  have hown0 : OwnW (w.alloc (.cells #[.int .u64 (y : Nat)] 23)) w.heap.size (.slice (some ⟨w.heap.size, 0, none⟩) 1 1) [y] := World.ownsRow_lit (base := w.heap.size) (e := 23) (size := 1) w #[.int .u64 (y : Nat)] 1 (Nat.le_refl _) (by decide) rfl
  have hsz := hg0.size
  have HW := Lib.hid (h.later hg0)
  subst hn
  clear h
  go_enter Tryz.func43, Tryz.ntmps43
  go_wp2_with (at_builtin; go_must (refine wpList_append_words hown0 HW.out (by simp; omega) hsz rfl _ _ rfl rfl rfl ?_); intro v' w1 hown1 hg1)
  obtain ⟨va, vn, vc, hv⟩ := wv_form hown1
  subst hv
  go_ret
  exact ⟨_, rfl, hown1, grown_step hg0 hg1 (fun i hi => .inl (World.ownsRow.lt hown0 i hi).1)⟩
end Go.Proofs.YtoamlkljfmgomaaGreat
