/-
  Which of two keys is smaller: cmp.Compare, cmp.Or, and compare, by walks.
  No condition.
-/
import Derived.Test.YthhboidjibdahaaGreatLSeg
import Derived.Test.YthhboidjibdahaaGreatLTag
import Derived.Sort.Grow
import Derived.Deep.RegionHeld3
namespace Go.Proofs.YthhboidjibdahaaGreat
open Go.RowKit
set_option linter.unusedVariables false
set_option linter.unusedSimpArgs false

/-- less, same, greater -/
def cmpN (a b : Nat) : Int := if a < b then -1 else if b < a then 1 else 0
/-- of two keys -/
def cmpK (s o s' o' : Nat) : Int := if cmpN s s' = 0 then cmpN o o' else cmpN s s'
theorem cmpN_lt {a b : Nat} (h : a < b) : cmpN a b = -1 := if_pos h
theorem cmpN_gt {a b : Nat} (h : b < a) : cmpN a b = 1 := by unfold cmpN; rw [if_neg (by omega), if_pos h]
theorem cmpN_eq (a : Nat) : cmpN a a = 0 := by unfold cmpN; rw [if_neg (by omega), if_neg (by omega)]
theorem cmpN_three (a b : Nat) : (a < b ∧ cmpN a b = -1) ∨ (b < a ∧ cmpN a b = 1) ∨ (a = b ∧ cmpN a b = 0) := by
  rcases Nat.lt_trichotomy a b with h | h | h
  · exact .inl ⟨h, cmpN_lt h⟩
  · subst h; exact .inr (.inr ⟨rfl, cmpN_eq a⟩)
  · exact .inr (.inl ⟨h, cmpN_gt h⟩)
theorem isnan_any (x : Nat) (w : World) : Calls Tryz.prog 90 #[.int .u64 x] w fun e w' => e = .returned (.bool false) ∧ w = w' := by
  go_enter Tryz.func90, Tryz.ntmps90
  go_wp2
  go_ret
  exact ⟨rfl, rfl⟩
theorem compare_u64 (x y : Nat) (w : World) : Calls Tryz.prog 76 #[.int .u64 x, .int .u64 y] w fun e w' => e = .returned (.int .i64 (cmpN x y)) ∧ w = w' := by
  have hn := fun x => isnan_any x w
  rcases cmpN_three x y with ⟨h, e⟩ | ⟨h, e⟩ | ⟨h, e⟩
  · rw [e]
    have h1 : (x : Int) < (y : Int) := by omega
    go_enter Tryz.func76, Tryz.ntmps76
    go_wp2_with (go_at_call 90; (with_reducible refine (hn _).mono ?_); rintro e w1 ⟨rfl, rfl⟩)
    go_ret
    exact ⟨rfl, rfl⟩
  · rw [e]
    have h1 : ¬ (x : Int) < (y : Int) := by omega
    have h2 : (y : Int) < (x : Int) := by omega
    go_enter Tryz.func76, Tryz.ntmps76
    go_wp2_with (go_at_call 90; (with_reducible refine (hn _).mono ?_); rintro e w1 ⟨rfl, rfl⟩)
    go_ret
    exact ⟨rfl, rfl⟩
  · rw [e]
    subst h
    go_enter Tryz.func76, Tryz.ntmps76
    go_wp2_with (go_at_call 90; (with_reducible refine (hn _).mono ?_); rintro e w1 ⟨rfl, rfl⟩)
    go_ret
    exact ⟨rfl, rfl⟩
theorem or_two (p q : Int) (b c : Nat) (w : World) (h0 : w.cell? ⟨b, 0, none⟩ = some (.int .i64 p)) (h1 : w.cell? ⟨b, 1, none⟩ = some (.int .i64 q)) : Calls Tryz.prog 75 #[.slice (some ⟨b, 0, none⟩) 2 c] w fun e w' => e = .returned (.int .i64 (if p = 0 then q else p)) ∧ w = w' := by
  go_enter Tryz.func75, Tryz.ntmps75
  go_wp2
  go_loop [8] (fun i => ∃ k : Nat, k ≤ 2 ∧ i = .int .i64 k ∧ (1 ≤ k → p = 0) ∧ (k = 2 → q = 0)) (fun i => 2 - (intOf i).toNat)
  case atStart => exact ⟨0, by omega, rfl, by omega, by omega⟩
  case round =>
    obtain ⟨k, hk, rfl, hp, hq⟩ := hrel
    rcases k with _ | _ | _ | k
    · by_cases h : p = 0
      · subst h
        go_wp2
        go_round
        case rel => exact ⟨1, by omega, by go_num, by simp, by omega⟩
        case measure => simp [intOf]
      · go_wp2
        go_ret
        exact ⟨rfl, rfl⟩
    · obtain rfl := hp (by omega)
      by_cases h : q = 0
      · subst h
        go_wp2
        go_round
        case rel => exact ⟨2, by omega, by go_num, by simp, by simp⟩
        case measure => simp [intOf]
      · go_wp2
        go_ret
        exact ⟨by simp, rfl⟩
    · obtain rfl := hp (by omega)
      obtain rfl := hq (by omega)
      go_wp2
      go_ret
      exact ⟨by simp, rfl⟩
    · omega
theorem two_held {w w' : World} {x y : Value} {t : TypeId} {b : Nat} (h : w.heap[b]? = some (.cells #[x, y] t (0, 0))) (hg : w.grownBy w' none) : w'.heap[b]? = some (.cells #[x, y] t (0, 0)) := (hg.block _ (lt_of_block h) (by simp)).trans h
set_option maxHeartbeats 1000000 in
theorem tcompare_any (s o s' o' : Nat) (w : World) : Calls Tryz.prog 49 #[.agg #[.int .u64 s, .int .u64 o], .agg #[.int .u64 s', .int .u64 o']] w fun e w' => e = .returned (.int .i64 (cmpK s o s' o')) ∧ ∃ q os, w' = Go.Sort.grow (w.drewN q) os := by
  have hc := fun x y w => compare_u64 x y w
  have ho := fun p q b c w h0 h1 => or_two p q b c w h0 h1
  unfold cmpK
  obtain ⟨x, ex⟩ : ∃ x, cmpN s s' = x := ⟨_, rfl⟩
  obtain ⟨y, ey⟩ : ∃ y, cmpN o o' = y := ⟨_, rfl⟩
  have hc1 := fun w => compare_u64 s s' w
  have hc2 := fun w => compare_u64 o o' w
  rw [ex] at hc1
  rw [ey] at hc2
  rw [ex, ey]
  have ha : ((w.alloc (.cells #[.int .u64 s, .int .u64 o] 66)).alloc (.cells #[.int .u64 s', .int .u64 o'] 66)).heap[w.heap.size]? = some (.cells #[.int .u64 s, .int .u64 o] 66 (0, 0)) := (Below.heap_alloc _ _ _ (by simp)).trans (heap_alloc_new' w _)
  have hb : ((w.alloc (.cells #[.int .u64 s, .int .u64 o] 66)).alloc (.cells #[.int .u64 s', .int .u64 o'] 66)).heap[w.heap.size + 1]? = some (.cells #[.int .u64 s', .int .u64 o'] 66 (0, 0)) := by
    have := heap_alloc_new' (w.alloc (.cells #[.int .u64 s, .int .u64 o] 66)) (.cells #[.int .u64 s', .int .u64 o'] 66)
    rwa [World.size_alloc] at this
  obtain ⟨W, hW⟩ : ∃ W, (w.alloc (.cells #[.int .u64 s, .int .u64 o] 66)).alloc (.cells #[.int .u64 s', .int .u64 o'] 66) = W := ⟨_, rfl⟩
  rw [hW] at ha hb
  obtain ⟨a0, a1⟩ := two_cells ha
  obtain ⟨b0, b1⟩ := two_cells hb
  clear ha hb
  have hor := or_two x y W.heap.size 2 (W.alloc (.cells #[.int .i64 x, .int .i64 y] 3)).drew (two_cells (heap_alloc_new' W (.cells #[.int .i64 x, .int .i64 y] 3))).1 (two_cells (heap_alloc_new' W (.cells #[.int .i64 x, .int .i64 y] 3))).2
  obtain ⟨r, er⟩ : ∃ r, (if x = 0 then y else x) = r := ⟨_, rfl⟩
  rw [er] at hor ⊢
  clear er
  go_enter Tryz.func49, Tryz.ntmps49
  go_wp2
  go_region_held3 (fun wr => wr.cell? ⟨w.heap.size, 0, none⟩ = some (.int .u64 s) ∧ wr.cell? ⟨w.heap.size, 1, none⟩ = some (.int .u64 o) ∧ wr.cell? ⟨w.heap.size + 1, 0, none⟩ = some (.int .u64 s') ∧ wr.cell? ⟨w.heap.size + 1, 1, none⟩ = some (.int .u64 o')) (go_keep) (first | (go_at_call 76; (with_reducible refine (hc1 _).mono ?_); rintro e w1 ⟨rfl, rfl⟩) | (go_at_call 76; (with_reducible refine (hc2 _).mono ?_); rintro e w1 ⟨rfl, rfl⟩) | (go_at_call 75; (with_reducible refine hor.mono ?_); rintro e w1 ⟨rfl, rfl⟩))
  all_goals go_wp2
  go_ret
  refine ⟨rfl, 1, #[.cells #[.int .u64 s, .int .u64 o] 66, .cells #[.int .u64 s', .int .u64 o'] 66, .cells #[.int .i64 x, .int .i64 y] 3], ?_⟩
  rw [← hW]
  simp only [Go.Sort.alloc_eq_grow, Go.Sort.grow_grow, Go.Sort.drew_grow]
  rfl
theorem grow_grown (w : World) (q : Nat) (os : Array Obj) : w.grownBy (Go.Sort.grow (w.drewN q) os) none where
  os := rfl
  tape := rfl
  output := rfl
  size := by simp [Go.Sort.grow, World.drewN]
  block := fun k hk _ => by
    show (w.heap ++ os)[k]? = _
    rw [Array.getElem?_append_left hk]
theorem tcompare_grown (s o s' o' : Nat) (w : World) : Calls Tryz.prog 49 #[.agg #[.int .u64 s, .int .u64 o], .agg #[.int .u64 s', .int .u64 o']] w fun e w' => e = .returned (.int .i64 (cmpK s o s' o')) ∧ w.grownBy w' none :=
  (tcompare_any s o s' o' w).mono fun _ _ ⟨h1, q, os, h2⟩ => ⟨h1, by rw [h2]; exact grow_grown _ _ _⟩
end Go.Proofs.YthhboidjibdahaaGreat
