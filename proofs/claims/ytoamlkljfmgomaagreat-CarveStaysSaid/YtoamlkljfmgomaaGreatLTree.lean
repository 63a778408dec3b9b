/-
  The texts of this claim that speak of one layer, one behind the other: each says ahead of it what it holds, and under which conditions.
-/
import Derived.Test.YtoamlkljfmgomaaGreatLSeg
import Derived.Test.YtoamlkljfmgomaaGreatLTag
import Derived.Sort.Grow
import Derived.Deep.RegionHeld3
import Derived.Test.YtoamlkljfmgomaaGreatLWord
import Derived.Test.YtoamlkljfmgomaaGreatLPhys
import Derived.Shelf.SlSortCmp.WholeK
/-
  Which of two keys is smaller: cmp.Compare, cmp.Or, and compare, by walks.
  No condition.
-/
namespace Go.Proofs.YtoamlkljfmgomaaGreat
open Go.RowKit
set_option linter.unusedVariables false
set_option linter.unusedSimpArgs false

/-- less, same, greater -/
def cmpN (a b : Nat) : Int := if a < b then -1 else if b < a then 1 else 0
/-- of two keys -/
def cmpK (s o s' o' : Nat) : Int := if cmpN s s' = 0 then cmpN o o' else cmpN s s'
theorem cmpN_lt {a b : Nat} (h : a < b) : cmpN a b = -1 := if_pos h
theorem cmpN_gt {a b : Nat} (h : b < a) : cmpN a b = 1 := by unfold cmpN; rw [if_neg (by omega), if_pos h]
theorem cmpN_eq (a : Nat) : cmpN a a = 0 := by unfold cmpN; rw [if_neg (by omega), if_neg (by omega)]
theorem cmpN_three (a b : Nat) : (a < b ∧ cmpN a b = -1) ∨ (b < a ∧ cmpN a b = 1) ∨ (a = b ∧ cmpN a b = 0) := by
  rcases Nat.lt_trichotomy a b with h | h | h
  · exact .inl ⟨h, cmpN_lt h⟩
  · subst h; exact .inr (.inr ⟨rfl, cmpN_eq a⟩)
  · exact .inr (.inl ⟨h, cmpN_gt h⟩)
theorem isnan_any (x : Nat) (w : World) : Calls Tryz.prog 133 #[.int .u64 x] w fun e w' => e = .returned (.bool false) ∧ w = w' := by
  go_enter Tryz.func133, Tryz.ntmps133
  go_wp2
  go_ret
  exact ⟨rfl, rfl⟩
theorem compare_u64 (x y : Nat) (w : World) : Calls Tryz.prog 120 #[.int .u64 x, .int .u64 y] w fun e w' => e = .returned (.int .i64 (cmpN x y)) ∧ w = w' := by
  have hn := fun x => isnan_any x w
  rcases cmpN_three x y with ⟨h, e⟩ | ⟨h, e⟩ | ⟨h, e⟩
  · rw [e]
    have h1 : (x : Int) < (y : Int) := by omega
    go_enter Tryz.func120, Tryz.ntmps120
    go_wp2_with (go_at_call 133; (with_reducible refine (hn _).mono ?_); rintro e w1 ⟨rfl, rfl⟩)
    go_ret
    exact ⟨rfl, rfl⟩
  · rw [e]
    have h1 : ¬ (x : Int) < (y : Int) := by omega
    have h2 : (y : Int) < (x : Int) := by omega
    go_enter Tryz.func120, Tryz.ntmps120
    go_wp2_with (go_at_call 133; (with_reducible refine (hn _).mono ?_); rintro e w1 ⟨rfl, rfl⟩)
    go_ret
    exact ⟨rfl, rfl⟩
  · rw [e]
    subst h
    go_enter Tryz.func120, Tryz.ntmps120
    go_wp2_with (go_at_call 133; (with_reducible refine (hn _).mono ?_); rintro e w1 ⟨rfl, rfl⟩)
    go_ret
    exact ⟨rfl, rfl⟩
theorem or_two (p q : Int) (b c : Nat) (w : World) (h0 : w.cell? ⟨b, 0, none⟩ = some (.int .i64 p)) (h1 : w.cell? ⟨b, 1, none⟩ = some (.int .i64 q)) : Calls Tryz.prog 119 #[.slice (some ⟨b, 0, none⟩) 2 c] w fun e w' => e = .returned (.int .i64 (if p = 0 then q else p)) ∧ w = w' := by
  go_enter Tryz.func119, Tryz.ntmps119
  go_wp2
  go_loop [8] (fun i => ∃ k : Nat, k ≤ 2 ∧ i = .int .i64 k ∧ (1 ≤ k → p = 0) ∧ (k = 2 → q = 0)) (fun i => 2 - (intOf i).toNat)
  case atStart => exact ⟨0, by omega, rfl, by omega, by omega⟩
  case round =>
    obtain ⟨k, hk, rfl, hp, hq⟩ := hrel
    rcases k with _ | _ | _ | k
    · by_cases h : p = 0
      · subst h
        go_wp2
        go_round
        case rel => exact ⟨1, by omega, by go_num, by simp, by omega⟩
        case measure => simp [intOf]
      · go_wp2
        go_ret
        exact ⟨rfl, rfl⟩
    · obtain rfl := hp (by omega)
      by_cases h : q = 0
      · subst h
        go_wp2
        go_round
        case rel => exact ⟨2, by omega, by go_num, by simp, by simp⟩
        case measure => simp [intOf]
      · go_wp2
        go_ret
        exact ⟨by simp, rfl⟩
    · obtain rfl := hp (by omega)
      obtain rfl := hq (by omega)
      go_wp2
      go_ret
      exact ⟨by simp, rfl⟩
    · omega
theorem two_held {w w' : World} {x y : Value} {t : TypeId} {b : Nat} (h : w.heap[b]? = some (.cells #[x, y] t (0, 0))) (hg : w.grownBy w' none) : w'.heap[b]? = some (.cells #[x, y] t (0, 0)) := (hg.block _ (lt_of_block h) (by simp)).trans h
set_option maxHeartbeats 1000000 in
theorem tcompare_any (s o s' o' : Nat) (w : World) : Calls Tryz.prog 101 #[.agg #[.int .u64 s, .int .u64 o], .agg #[.int .u64 s', .int .u64 o']] w fun e w' => e = .returned (.int .i64 (cmpK s o s' o')) ∧ ∃ q os, w' = Go.Sort.grow (w.drewN q) os := by
  have hc := fun x y w => compare_u64 x y w
  have ho := fun p q b c w h0 h1 => or_two p q b c w h0 h1
  unfold cmpK
  obtain ⟨x, ex⟩ : ∃ x, cmpN s s' = x := ⟨_, rfl⟩
  obtain ⟨y, ey⟩ : ∃ y, cmpN o o' = y := ⟨_, rfl⟩
  have hc1 := fun w => compare_u64 s s' w
  have hc2 := fun w => compare_u64 o o' w
  rw [ex] at hc1
  rw [ey] at hc2
  rw [ex, ey]
  have ha : ((w.alloc (.cells #[.int .u64 s, .int .u64 o] 131)).alloc (.cells #[.int .u64 s', .int .u64 o'] 131)).heap[w.heap.size]? = some (.cells #[.int .u64 s, .int .u64 o] 131 (0, 0)) := (Below.heap_alloc _ _ _ (by simp)).trans (heap_alloc_new' w _)
  have hb : ((w.alloc (.cells #[.int .u64 s, .int .u64 o] 131)).alloc (.cells #[.int .u64 s', .int .u64 o'] 131)).heap[w.heap.size + 1]? = some (.cells #[.int .u64 s', .int .u64 o'] 131 (0, 0)) := by
    have := heap_alloc_new' (w.alloc (.cells #[.int .u64 s, .int .u64 o] 131)) (.cells #[.int .u64 s', .int .u64 o'] 131)
    rwa [World.size_alloc] at this
  obtain ⟨W, hW⟩ : ∃ W, (w.alloc (.cells #[.int .u64 s, .int .u64 o] 131)).alloc (.cells #[.int .u64 s', .int .u64 o'] 131) = W := ⟨_, rfl⟩
  rw [hW] at ha hb
  obtain ⟨a0, a1⟩ := two_cells ha
  obtain ⟨b0, b1⟩ := two_cells hb
  clear ha hb
  have hor := or_two x y W.heap.size 2 (W.alloc (.cells #[.int .i64 x, .int .i64 y] 3)).drew (two_cells (heap_alloc_new' W (.cells #[.int .i64 x, .int .i64 y] 3))).1 (two_cells (heap_alloc_new' W (.cells #[.int .i64 x, .int .i64 y] 3))).2
  obtain ⟨r, er⟩ : ∃ r, (if x = 0 then y else x) = r := ⟨_, rfl⟩
  rw [er] at hor ⊢
  clear er
  go_enter Tryz.func101, Tryz.ntmps101
  go_wp2
  go_region_held3 (fun wr => wr.cell? ⟨w.heap.size, 0, none⟩ = some (.int .u64 s) ∧ wr.cell? ⟨w.heap.size, 1, none⟩ = some (.int .u64 o) ∧ wr.cell? ⟨w.heap.size + 1, 0, none⟩ = some (.int .u64 s') ∧ wr.cell? ⟨w.heap.size + 1, 1, none⟩ = some (.int .u64 o')) (go_keep) (first | (go_at_call 120; (with_reducible refine (hc1 _).mono ?_); rintro e w1 ⟨rfl, rfl⟩) | (go_at_call 120; (with_reducible refine (hc2 _).mono ?_); rintro e w1 ⟨rfl, rfl⟩) | (go_at_call 119; (with_reducible refine hor.mono ?_); rintro e w1 ⟨rfl, rfl⟩))
  all_goals go_wp2
  go_ret
  refine ⟨rfl, 1, #[.cells #[.int .u64 s, .int .u64 o] 131, .cells #[.int .u64 s', .int .u64 o'] 131, .cells #[.int .i64 x, .int .i64 y] 3], ?_⟩
  rw [← hW]
  simp only [Go.Sort.alloc_eq_grow, Go.Sort.grow_grow, Go.Sort.drew_grow]
  rfl
theorem grow_grown (w : World) (q : Nat) (os : Array Obj) : w.grownBy (Go.Sort.grow (w.drewN q) os) none where
  os := rfl
  tape := rfl
  output := rfl
  size := by simp [Go.Sort.grow, World.drewN]
  block := fun k hk _ => by
    show (w.heap ++ os)[k]? = _
    rw [Array.getElem?_append_left hk]
theorem tcompare_grown (s o s' o' : Nat) (w : World) : Calls Tryz.prog 101 #[.agg #[.int .u64 s, .int .u64 o], .agg #[.int .u64 s', .int .u64 o']] w fun e w' => e = .returned (.int .i64 (cmpK s o s' o')) ∧ w.grownBy w' none :=
  (tcompare_any s o s' o' w).mono fun _ _ ⟨h1, q, os, h2⟩ => ⟨h1, by rw [h2]; exact grow_grown _ _ _⟩
end Go.Proofs.YtoamlkljfmgomaaGreat

/-
  A tree of blocks as words say it, as plain mathematics: its root and sons, what stays when other words turn, and that there is just one.
  No condition.
-/
namespace Go.Proofs.YtoamlkljfmgomaaGreat
set_option linter.unusedVariables false
set_option linter.unusedSimpArgs false

/-- The words f say, n sons deep at most, that r is the root of the tree of the blocks l, told in their turn by keys. -/
def TreeN (f rk : Nat → Nat) : Nat → Nat → List Nat → Prop
  | 0, r, l => r = 0 ∧ l = []
  | n + 1, r, l => (r = 0 ∧ l = []) ∨ (r ≠ 0 ∧ ∃ L R, l = L ++ r :: R ∧ (∀ x, x ∈ L → rk x < rk r) ∧ (∀ x, x ∈ R → rk x < rk r) ∧ TreeN f rk n (f (r + 8)) L ∧ TreeN f rk n (f (r + 16)) R)
/-- The words f say that r is the root of the tree of the blocks l. -/
def TreeOf (f rk : Nat → Nat) (r : Nat) (l : List Nat) : Prop := TreeN f rk l.length r l

section
variable {f g rk : Nat → Nat} {n m r s : Nat} {l L R : List Nat}
theorem TreeN.up : ∀ {n m r : Nat} {l : List Nat}, TreeN f rk n r l → n ≤ m → TreeN f rk m r l
  | 0, 0, r, l, h, _ => h
  | 0, m + 1, r, l, h, _ => Or.inl h
  | n + 1, 0, r, l, h, hm => by omega
  | n + 1, m + 1, r, l, h, hm => by
    rcases h with h | ⟨h0, L, R, e, hL, hR, tL, tR⟩
    · exact Or.inl h
    · exact Or.inr ⟨h0, L, R, e, hL, hR, tL.up (by omega), tR.up (by omega)⟩
theorem TreeN.down : ∀ {n r : Nat} {l : List Nat} (m : Nat), TreeN f rk n r l → l.length ≤ m → TreeN f rk m r l
  | 0, r, l, m, h, _ => h.up (by omega)
  | n + 1, r, l, m, h, hm => by
    rcases h with h | ⟨h0, L, R, e, hL, hR, tL, tR⟩
    · exact TreeN.up (n := 0) h (by omega)
    · subst e
      simp only [List.length_append, List.length_cons] at hm
      obtain ⟨k, rfl⟩ : ∃ k, m = k + 1 := ⟨m - 1, by omega⟩
      exact Or.inr ⟨h0, L, R, rfl, hL, hR, tL.down k (by omega), tR.down k (by omega)⟩
theorem TreeN.of (h : TreeN f rk n r l) : TreeOf f rk r l := h.down _ (by omega)
theorem TreeOf.nil : TreeOf f rk 0 [] := ⟨rfl, rfl⟩
theorem TreeOf.node (h0 : r ≠ 0) (hL : ∀ x, x ∈ L → rk x < rk r) (hR : ∀ x, x ∈ R → rk x < rk r) (tL : TreeOf f rk (f (r + 8)) L) (tR : TreeOf f rk (f (r + 16)) R) : TreeOf f rk r (L ++ r :: R) :=
  TreeN.of (n := L.length + R.length + 1) (Or.inr ⟨h0, L, R, rfl, hL, hR, TreeN.up tL (by omega), TreeN.up tR (by omega)⟩)
theorem TreeOf.cases (h : TreeOf f rk r l) : (r = 0 ∧ l = []) ∨ (r ≠ 0 ∧ ∃ L R, l = L ++ r :: R ∧ (∀ x, x ∈ L → rk x < rk r) ∧ (∀ x, x ∈ R → rk x < rk r) ∧ TreeOf f rk (f (r + 8)) L ∧ TreeOf f rk (f (r + 16)) R) := by
  unfold TreeOf at h
  generalize hn : l.length = n at h
  cases n with
  | zero => exact Or.inl h
  | succ n =>
    rcases h with h | ⟨h0, L, R, e, hL, hR, tL, tR⟩
    · exact Or.inl h
    · exact Or.inr ⟨h0, L, R, e, hL, hR, tL.of, tR.of⟩
theorem TreeOf.zero (h : TreeOf f rk 0 l) : l = [] := by
  rcases h.cases with h | ⟨h0, _⟩
  · exact h.2
  · exact absurd rfl h0
theorem TreeOf.none (h : TreeOf f rk r []) : r = 0 := by
  rcases h.cases with h | ⟨h0, L, R, e, _⟩
  · exact h.1
  · simp at e
theorem TreeOf.some (h : TreeOf f rk r l) (h0 : r ≠ 0) : ∃ L R, l = L ++ r :: R ∧ (∀ x, x ∈ L → rk x < rk r) ∧ (∀ x, x ∈ R → rk x < rk r) ∧ TreeOf f rk (f (r + 8)) L ∧ TreeOf f rk (f (r + 16)) R := by
  rcases h.cases with h | h
  · exact absurd h.1 h0
  · exact h.2
theorem TreeOf.mem (h : TreeOf f rk r l) (h0 : r ≠ 0) : r ∈ l := by
  obtain ⟨L, R, e, _⟩ := h.some h0
  subst e; simp
theorem TreeN.pos : ∀ {n r : Nat} {l : List Nat}, TreeN f rk n r l → ∀ x, x ∈ l → x ≠ 0
  | 0, r, l, h, x, hx => by rw [h.2] at hx; simp at hx
  | n + 1, r, l, h, x, hx => by
    rcases h with h | ⟨h0, L, R, e, hL, hR, tL, tR⟩
    · rw [h.2] at hx; simp at hx
    · subst e
      simp only [List.mem_append, List.mem_cons] at hx
      rcases hx with hx | hx | hx
      · exact tL.pos x hx
      · rw [hx]; exact h0
      · exact tR.pos x hx
/-- no block of a tree begins at nobody's offset -/
theorem TreeOf.pos (h : TreeOf f rk r l) : ∀ x, x ∈ l → x ≠ 0 := TreeN.pos h
theorem TreeN.frame : ∀ {n r : Nat} {l : List Nat}, TreeN f rk n r l → (∀ x, x ∈ l → g (x + 8) = f (x + 8) ∧ g (x + 16) = f (x + 16)) → TreeN g rk n r l
  | 0, r, l, h, _ => h
  | n + 1, r, l, h, hg => by
    rcases h with h | ⟨h0, L, R, e, hL, hR, tL, tR⟩
    · exact Or.inl h
    · subst e
      obtain ⟨e8, e16⟩ := hg r (by simp)
      refine Or.inr ⟨h0, L, R, rfl, hL, hR, ?_, ?_⟩
      · rw [e8]; exact tL.frame fun x hx => hg x (by simp [hx])
      · rw [e16]; exact tR.frame fun x hx => hg x (by simp [hx])
/-- what words turn that are no sons of the tree, it stays -/
theorem TreeOf.frame (h : TreeOf f rk r l) (hg : ∀ x, x ∈ l → g (x + 8) = f (x + 8) ∧ g (x + 16) = f (x + 16)) : TreeOf g rk r l := TreeN.frame h hg
theorem root_split : ∀ {L L' R R' : List Nat} {r s : Nat}, L ++ r :: R = L' ++ s :: R' → (∀ x, x ∈ L → rk x < rk r) → (∀ x, x ∈ R → rk x < rk r) → (∀ x, x ∈ L' → rk x < rk s) → (∀ x, x ∈ R' → rk x < rk s) → L = L' ∧ r = s ∧ R = R'
  | [], [], R, R', r, s, e, _, _, _, _ => by simp only [List.nil_append, List.cons.injEq] at e; exact ⟨rfl, e.1, e.2⟩
  | [], b :: L', R, R', r, s, e, hL, hR, hL', hR' => by
    simp only [List.nil_append, List.cons_append, List.cons.injEq] at e
    obtain ⟨rfl, rfl⟩ := e
    have h1 := hR s (by simp)
    have h2 := hL' r (by simp)
    omega
  | a :: L, [], R, R', r, s, e, hL, hR, hL', hR' => by
    simp only [List.nil_append, List.cons_append, List.cons.injEq] at e
    obtain ⟨rfl, rfl⟩ := e
    have h1 := hR' r (by simp)
    have h2 := hL a (by simp)
    omega
  | a :: L, b :: L', R, R', r, s, e, hL, hR, hL', hR' => by
    simp only [List.cons_append, List.cons.injEq] at e
    obtain ⟨rfl, e⟩ := e
    obtain ⟨h1, h2, h3⟩ := root_split e (fun x hx => hL x (by simp [hx])) hR (fun x hx => hL' x (by simp [hx])) hR'
    exact ⟨by rw [h1], h2, h3⟩
theorem TreeN.same : ∀ {n m r s : Nat} {l : List Nat}, TreeN f rk n r l → TreeN g rk m s l → r = s ∧ ∀ x, x ∈ l → f (x + 8) = g (x + 8) ∧ f (x + 16) = g (x + 16)
  | 0, m, r, s, l, h, k => by
    obtain ⟨rfl, rfl⟩ := h
    exact ⟨(TreeOf.none k.of).symm, by simp⟩
  | n + 1, m, r, s, l, h, k => by
    rcases h with h | ⟨h0, L, R, e, hL, hR, tL, tR⟩
    · obtain ⟨rfl, rfl⟩ := h
      exact ⟨(TreeOf.none k.of).symm, by simp⟩
    · subst e
      rcases TreeOf.cases k.of with k | ⟨k0, L', R', e, kL, kR, uL, uR⟩
      · have := k.2; simp at this
      · obtain ⟨rfl, rfl, rfl⟩ := root_split e hL hR kL kR
        obtain ⟨a1, a2⟩ := tL.same uL
        obtain ⟨b1, b2⟩ := tR.same uR
        refine ⟨rfl, fun x hx => ?_⟩
        simp only [List.mem_append, List.mem_cons] at hx
        rcases hx with hx | hx | hx
        · exact a2 x hx
        · subst hx; exact ⟨a1, b1⟩
        · exact b2 x hx
/-- of the same blocks there is just one tree -/
theorem TreeOf.same (h : TreeOf f rk r l) (k : TreeOf g rk s l) : r = s ∧ ∀ x, x ∈ l → f (x + 8) = g (x + 8) ∧ f (x + 16) = g (x + 16) := TreeN.same h k
/-- the sons of the tree, of which a list's turn asks the same -/
theorem TreeOf.carry (h : TreeOf f rk r l) (hg : ∀ x, x ∈ l → g (x + 8) = f (x + 8) ∧ g (x + 16) = f (x + 16)) (hs : s = r) : TreeOf g rk s l := by rw [hs]; exact h.frame hg
end
end Go.Proofs.YtoamlkljfmgomaaGreat

/-
  A place in a tree of blocks where another tree may be hung, as plain mathematics.
  No condition.
-/
namespace Go.Proofs.YtoamlkljfmgomaaGreat
set_option linter.unusedVariables false
set_option linter.unusedSimpArgs false

/-- These blocks' sons are words of their own. -/
structure Apart (root : Nat) (A : Nat → Prop) : Prop where
  far : ∀ x y, A x → A y → x ≠ y → x + 24 ≤ y ∨ y + 24 ≤ x
  root : ∀ x, A x → x + 8 ≠ root ∧ x + 16 ≠ root
/-- A link of the tree below root, below which stand those that P lets, ahead of it pre, behind it post. -/
structure Hole (f rk : Nat → Nat) (root : Nat) (A : Nat → Prop) (lk : Nat) (pre post : List Nat) (P : Nat → Prop) : Prop where
  apart : Apart root A
  sub : ∀ x, x ∈ pre ++ post → A x
  link : lk = root ∨ ∃ x, x ∈ pre ++ post ∧ (lk = x + 8 ∨ lk = x + 16)
  fill : ∀ (g : Nat → Nat) (m : List Nat), (∀ x, x ∈ pre ++ post → (x + 8 ≠ lk → g (x + 8) = f (x + 8)) ∧ (x + 16 ≠ lk → g (x + 16) = f (x + 16))) → (root ≠ lk → g root = f root) → (∀ x, x ∈ m → P x) → TreeOf g rk (g lk) m → TreeOf g rk (g root) (pre ++ m ++ post)
section
variable {f g rk : Nat → Nat} {root lk n v : Nat} {A P : Nat → Prop} {pre post l L R m : List Nat}
theorem mem_outL {y : Nat} (h : y ∈ pre ++ post) : y ∈ pre ++ (n :: (R ++ post)) := by
  rcases List.mem_append.1 h with h | h
  · simp [h]
  · simp [h]
theorem mem_outR {y : Nat} (h : y ∈ pre ++ post) : y ∈ (pre ++ (L ++ [n])) ++ post := by
  rcases List.mem_append.1 h with h | h
  · simp [h]
  · simp [h]
theorem mem_mid {y : Nat} (h : y ∈ m) : y ∈ pre ++ m ++ post := by simp [h]
theorem Apart.son {x y : Nat} (h : Apart root A) (hx : A x) (hy : A y) (hn : x ≠ y) : x + 8 ≠ y + 8 ∧ x + 8 ≠ y + 16 ∧ x + 16 ≠ y + 8 ∧ x + 16 ≠ y + 16 := by
  have := h.far x y hx hy hn
  omega
theorem Hole.start (h : Apart root A) : Hole f rk root A root [] [] fun _ => True where
  apart := h
  sub := fun x hx => by simp at hx
  link := .inl rfl
  fill := fun g m _ _ _ ht => by simpa using ht
/-- a block that stands elsewhere has no son at the link -/
theorem Hole.off {x : Nat} (h : Hole f rk root A lk pre post P) (hx : A x) (hn : x ∉ pre ++ post) : x + 8 ≠ lk ∧ x + 16 ≠ lk := by
  rcases h.link with e | ⟨y, hy, e⟩
  · rw [e]; exact h.apart.root x hx
  · have := h.apart.son hx (h.sub y hy) fun e => hn (e ▸ hy)
    omega
/-- what is turned elsewhere -/
theorem Hole.frame (h : Hole f rk root A lk pre post P) (hg : ∀ x, x ∈ pre ++ post → (x + 8 ≠ lk → g (x + 8) = f (x + 8)) ∧ (x + 16 ≠ lk → g (x + 16) = f (x + 16))) (hr : root ≠ lk → g root = f root) : Hole g rk root A lk pre post P where
  apart := h.apart
  sub := h.sub
  link := h.link
  fill := fun k m hk hkr hP ht => h.fill k m (fun x hx => ⟨fun e => ((hk x hx).1 e).trans ((hg x hx).1 e), fun e => ((hk x hx).2 e).trans ((hg x hx).2 e)⟩) (fun e => (hkr e).trans (hr e)) hP ht
theorem Hole.weak (h : Hole f rk root A lk pre post P) {Q : Nat → Prop} (hQ : ∀ x, Q x → P x) : Hole f rk root A lk pre post Q where
  apart := h.apart
  sub := h.sub
  link := h.link
  fill := fun g m h1 h2 h3 h4 => h.fill g m h1 h2 (fun x hx => hQ x (h3 x hx)) h4
/-- below a block's left son -/
theorem Hole.left (h : Hole f rk root A lk pre post P) (hn : f lk = n) (h0 : n ≠ 0) (hA : ∀ x, x ∈ n :: R → A x) (hnn : n ∉ pre ++ post) (hnR : n ∉ R) (hP : ∀ x, x ∈ n :: R → P x) (hR : ∀ x, x ∈ R → rk x < rk n) (hoff : ∀ x, x ∈ R → x ∉ pre ++ post) (tR : TreeOf f rk (f (n + 16)) R) :
    Hole f rk root A (n + 8) pre (n :: (R ++ post)) (fun y => P y ∧ rk y < rk n) where
  apart := h.apart
  sub := fun x hx => by
    simp only [List.mem_append, List.mem_cons] at hx
    rcases hx with hx | hx | hx | hx
    · exact h.sub x (by simp [hx])
    · exact hA x (by simp [hx])
    · exact hA x (by simp [hx])
    · exact h.sub x (by simp [hx])
  link := .inr ⟨n, by simp, .inl rfl⟩
  fill := fun g m hg hr hm ht => by
    have hAn := hA n (by simp)
    have ho := h.off hAn hnn
    have hlk : g lk = n := by
      rcases h.link with e | ⟨y, hy, e⟩
      · rw [e, hr (fun e => by have := (h.apart.root n hAn).1; omega), ← e, hn]
      · have hy' : y ≠ n := fun e => hnn (e ▸ hy)
        have hs := h.apart.son (h.sub y hy) hAn hy'
        have hgy := hg y (mem_outL hy)
        rcases e with e | e
        · rw [e, hgy.1 hs.1, ← e, hn]
        · rw [e, hgy.2 hs.2.2.1, ← e, hn]
    have e16 : g (n + 16) = f (n + 16) := (hg n (by simp)).2 (by omega)
    have hT : TreeOf g rk (g lk) (m ++ n :: R) := by
      rw [hlk]
      refine TreeOf.node h0 (fun x hx => (hm x hx).2) hR ht ?_
      rw [e16]
      refine tR.frame fun x hx => ?_
      have hs := h.apart.son (hA x (by simp [hx])) hAn (fun e => hnR (e ▸ hx))
      have hgx := hg x (by simp [hx])
      exact ⟨hgx.1 hs.1, hgx.2 hs.2.2.1⟩
    have := h.fill g (m ++ n :: R) (fun x hx => ?_) (fun e => hr (fun e => by have := (h.apart.root n hAn).1; omega)) (fun x hx => ?_) hT
    · simpa using this
    · have hs := h.apart.son (h.sub x hx) hAn (fun e => hnn (e ▸ hx))
      have hgx := hg x (mem_outL hx)
      exact ⟨fun _ => hgx.1 hs.1, fun _ => hgx.2 hs.2.2.1⟩
    · simp only [List.mem_append] at hx
      rcases hx with hx | hx
      · exact (hm x hx).1
      · exact hP x hx
/-- below a block's right son -/
theorem Hole.right (h : Hole f rk root A lk pre post P) (hn : f lk = n) (h0 : n ≠ 0) (hA : ∀ x, x ∈ n :: L → A x) (hnn : n ∉ pre ++ post) (hnL : n ∉ L) (hP : ∀ x, x ∈ n :: L → P x) (hL : ∀ x, x ∈ L → rk x < rk n) (hoff : ∀ x, x ∈ L → x ∉ pre ++ post) (tL : TreeOf f rk (f (n + 8)) L) :
    Hole f rk root A (n + 16) (pre ++ (L ++ [n])) post (fun y => P y ∧ rk y < rk n) where
  apart := h.apart
  sub := fun x hx => by
    simp only [List.mem_append, List.mem_cons, List.not_mem_nil, or_false] at hx
    rcases hx with (hx | hx | hx) | hx
    · exact h.sub x (by simp [hx])
    · exact hA x (by simp [hx])
    · exact hA x (by simp [hx])
    · exact h.sub x (by simp [hx])
  link := .inr ⟨n, by simp, .inr rfl⟩
  fill := fun g m hg hr hm ht => by
    have hAn := hA n (by simp)
    have ho := h.off hAn hnn
    have hlk : g lk = n := by
      rcases h.link with e | ⟨y, hy, e⟩
      · rw [e, hr (fun e => by have := (h.apart.root n hAn).2; omega), ← e, hn]
      · have hy' : y ≠ n := fun e => hnn (e ▸ hy)
        have hs := h.apart.son (h.sub y hy) hAn hy'
        have hgy := hg y (mem_outR hy)
        rcases e with e | e
        · rw [e, hgy.1 hs.2.1, ← e, hn]
        · rw [e, hgy.2 hs.2.2.2, ← e, hn]
    have e8 : g (n + 8) = f (n + 8) := (hg n (by simp)).1 (by omega)
    have hT : TreeOf g rk (g lk) (L ++ n :: m) := by
      rw [hlk]
      refine TreeOf.node h0 hL (fun x hx => (hm x hx).2) ?_ ht
      rw [e8]
      refine tL.frame fun x hx => ?_
      have hs := h.apart.son (hA x (by simp [hx])) hAn (fun e => hnL (e ▸ hx))
      have hgx := hg x (by simp [hx])
      exact ⟨hgx.1 hs.2.1, hgx.2 hs.2.2.2⟩
    have := h.fill g (L ++ n :: m) (fun x hx => ?_) (fun e => hr (fun e => by have := (h.apart.root n hAn).2; omega)) (fun x hx => ?_) hT
    · simpa using this
    · have hs := h.apart.son (h.sub x hx) hAn (fun e => hnn (e ▸ hx))
      have hgx := hg x (mem_outR hx)
      exact ⟨fun _ => hgx.1 hs.2.1, fun _ => hgx.2 hs.2.2.2⟩
    · simp only [List.mem_append, List.mem_cons] at hx
      rcases hx with hx | hx | hx
      · exact hP x (by simp [hx])
      · exact hP x (by simp [hx])
      · exact (hm x hx).1
/-- the link alone is stored -/
theorem Hole.put (h : Hole f rk root A lk pre post P) (hg : ∀ k, k ≠ lk → g k = f k) : Hole g rk root A lk pre post P :=
  h.frame (fun x _ => ⟨fun e => hg _ e, fun e => hg _ e⟩) fun e => hg _ e
/-- a tree elsewhere stays, where the link is stored -/
theorem Hole.keeps (h : Hole f rk root A lk pre post P) (hg : ∀ k, k ≠ lk → g k = f k) (hA : ∀ x, x ∈ m → A x) (hn : ∀ x, x ∈ m → x ∉ pre ++ post) (ht : TreeOf f rk v m) : TreeOf g rk v m :=
  ht.frame fun x hx => by
    have := h.off (hA x hx) (hn x hx)
    exact ⟨hg _ this.1, hg _ this.2⟩
end
end Go.Proofs.YtoamlkljfmgomaaGreat

/-
  Blocks that are laid one behind the other in a segment that is used whole, as plain mathematics of layer 7.
  No condition.
-/
namespace Go.Proofs.YtoamlkljfmgomaaGreat
open Go.RowKit
set_option linter.unusedVariables false
set_option linter.unusedSimpArgs false

theorem fmt4800 : fitsP 4800 4800 := by unfold fitsP; omega
theorem see4800 : txSee (fmt48 4800) [] 16 = 4800 := by rw [fmt48_yes fmt4800, see_nil]; exact fmt48_16 fmt4800
theorem LayP.first7 : LayP (fmt48 4800) [] 3776 0 := ⟨TxOk.empty _, fun _ _ => rfl, rfl, fun k hk => absurd hk (Nat.not_lt_zero _), by omega⟩
section
variable {l : List (Nat × Nat)} {off n : Nat}
theorem LayP.top7 (h : LayP (fmt48 4800) l off n) : txSee (fmt48 4800) l 16 = 4800 := by rw [h.low 16 (by decide)]; exact see4800
/-- a block is laid behind, m: how its words are otherwise thought of -/
theorem LayP.next7 (h : LayP (fmt48 4800) l off n) {s : Nat} {u : Bool} {o : Nat} (hm : mayP s u o) (hs : off + s ≤ 4800) {l' : List (Nat × Nat)} (hok : TxOk (fmt48 4800) l') (h1 : txSee (fmt48 4800) l' off = packN s u o) (h2 : txSee (fmt48 4800) l' (off + s - 8) = packN s u o) (h3 : u = true → txSee (fmt48 4800) l' (off + 8) + 40 ≤ s)
    (h4 : ∀ x, x < off → txSee (fmt48 4800) l' x = txSee (fmt48 4800) l x) : LayP (fmt48 4800) l' (off + s) (n + 1) := by
  have hal := h.al
  have ha := offs_ahead (g := txSee (fmt48 4800) l') h.good h.at_ h4
  have e16 : txSee (fmt48 4800) l' 16 = 4800 := by rw [h4 16 (by omega)]; exact h.top7
  have hoff := (ha n (Nat.le_refl _)).1
  rw [h.at_] at hoff
  obtain ⟨_, p2, p3, p4, p5⟩ := unpack_pack hm
  have hmm := hm
  unfold mayP at hmm
  refine ⟨hok, fun x hx => (h4 x (by omega)).trans (h.low x hx), ?_, fun k hk => ?_, by omega⟩
  · show offs (txSee (fmt48 4800) l') n + usz (txSee (fmt48 4800) l' (offs (txSee (fmt48 4800) l') n)) = off + s
    rw [hoff, h1, p3]
  · rcases Nat.lt_succ_iff_lt_or_eq.1 hk with h5 | rfl
    · exact (ha k (by omega)).2 h5
    · rw [hoff]
      unfold bkP rdP
      rw [h1, p3, p4, e16]
      exact ⟨⟨p2, by unfold inP; omega, h2⟩, h3⟩
/-- The heap of a segment in which blocks are laid. -/
structure Laid7 (l : List (Nat × Nat)) (N : Nat) : Prop where
  ok : TxOk (fmt48 4800) l
  chk : chkN (fmt48 4800) l = 0
  walks : Walks (txSee (fmt48 4800) l) N true
  ends : offs (txSee (fmt48 4800) l) N = 4800
  free : ∃ k, k < N ∧ uus (txSee (fmt48 4800) l (offs (txSee (fmt48 4800) l) k)) = false
  low : ∀ x, x < 3776 → txSee (fmt48 4800) l x = txSee (fmt48 4800) [] x
theorem LayP.last7 (h : LayP (fmt48 4800) l off n) {s : Nat} {m : Nat} (hm : mayP s false (m : Int)) {l' : List (Nat × Nat)} (h1 : txSee (fmt48 4800) l' off = packN s false m) (h4 : ∀ x, x < off → txSee (fmt48 4800) l' x = txSee (fmt48 4800) l x) : ∃ k, k < n + 1 ∧ uus (txSee (fmt48 4800) l' (offs (txSee (fmt48 4800) l') k)) = false := by
  have hoff := (offs_ahead (g := txSee (fmt48 4800) l') h.good h.at_ h4 n (Nat.le_refl _)).1
  rw [h.at_] at hoff
  exact ⟨n, by omega, by rw [hoff, h1]; exact (unpack_pack hm).2.2.2.1⟩
theorem LayP.done7 (h : LayP (fmt48 4800) l 4800 n) (hf : ∃ k, k < n ∧ uus (txSee (fmt48 4800) l (offs (txSee (fmt48 4800) l) k)) = false) : Laid7 l n := by
  refine ⟨h.ok, ?_, ⟨fun k hk => ⟨?_, h.good k hk⟩, ?_⟩, h.at_, hf, h.low⟩
  · have hc : chkP (fmt48 4800) l := by
      unfold chkP
      rw [h.low 16 (by decide), h.low 0 (by decide), h.low 8 (by decide), h.low 40 (by decide), fmt48_len, see4800, see_nil, see_nil, see_nil, fmt48_yes fmt4800]
      exact ⟨fmt4800, fmt48_0 fmt4800, fmt48_8 fmt4800, fmt48_40 fmt4800⟩
    exact if_pos hc
  · rw [h.top7]
    have := (bk_ge (h.good k hk)).2.2.1
    rw [h.top7] at this
    exact this
  · rw [if_pos rfl, h.top7, h.at_]
    exact Nat.le_refl _
/-- so many blocks' offsets, the free ones' -/
def freeN (f : Nat → Nat) : Nat → List Nat
  | 0 => []
  | k + 1 => freeN f k ++ if uus (f (offs f k)) = true then [] else [offs f k]
theorem freeN_mem {f : Nat → Nat} {x : Nat} : ∀ {k : Nat}, x ∈ freeN f k ↔ ∃ j, j < k ∧ x = offs f j ∧ uus (f x) = false
  | 0 => by simp [freeN]
  | k + 1 => by
    unfold freeN
    rw [List.mem_append, freeN_mem]
    constructor
    · rintro (⟨j, h1, h2, h3⟩ | h)
      · exact ⟨j, by omega, h2, h3⟩
      · by_cases c : uus (f (offs f k)) = true
        · simp [c] at h
        · rw [if_neg c] at h
          have : x = offs f k := by simpa using h
          subst this
          exact ⟨k, by omega, rfl, by simpa using c⟩
    · rintro ⟨j, h1, h2, h3⟩
      rcases Nat.lt_succ_iff_lt_or_eq.1 h1 with h4 | rfl
      · exact .inl ⟨j, h4, h2, h3⟩
      · right
        subst h2
        rw [if_neg (by rw [h3]; decide)]
        simp
theorem freeN_len {f : Nat → Nat} : ∀ k : Nat, (freeN f k).length ≤ k
  | 0 => Nat.le_refl _
  | k + 1 => by
    have := freeN_len (f := f) k
    unfold freeN
    by_cases c : uus (f (offs f k)) = true
    · simp [c]; omega
    · simp [c]; omega
/-- Offsets of free blocks: where they may stand, and that they are apart. -/
structure FreeL (l : List Nat) : Prop where
  on : ∀ x, x ∈ l → x % 16 = 0 ∧ 3776 ≤ x ∧ x + 48 ≤ 4800
  apart : l.Pairwise fun x y => x + 48 ≤ y
theorem FreeL.nodup {k : List Nat} (h : FreeL k) : k.Nodup := h.apart.imp fun h => by omega
theorem far_of : ∀ {k : List Nat}, k.Pairwise (fun x y => x + 48 ≤ y) → ∀ {x y : Nat}, x ∈ k → y ∈ k → x ≠ y → x + 48 ≤ y ∨ y + 48 ≤ x
  | [], _, x, y, hx, _, _ => by simp at hx
  | a :: k, h, x, y, hx, hy, hn => by
    have h' := List.pairwise_cons.1 h
    rcases List.mem_cons.1 hx with ex | kx
    · rcases List.mem_cons.1 hy with ey | ky
      · omega
      · rw [ex]; exact .inl (h'.1 y ky)
    · rcases List.mem_cons.1 hy with ey | ky
      · rw [ey]; exact .inr (h'.1 x kx)
      · exact far_of h'.2 kx ky hn
theorem FreeL.far {k : List Nat} (h : FreeL k) {x y : Nat} (hx : x ∈ k) (hy : y ∈ k) (hn : x ≠ y) : x + 48 ≤ y ∨ y + 48 ≤ x := far_of h.apart hx hy hn
theorem freeN_apart {f : Nat → Nat} {N : Nat} (h : ∀ k, k < N → bkP f (offs f k)) : ∀ k, k ≤ N → (freeN f k).Pairwise fun x y => x + 48 ≤ y
  | 0, _ => by simp [freeN]
  | k + 1, hk => by
    have ih := freeN_apart h k (by omega)
    unfold freeN
    by_cases c : uus (f (offs f k)) = true
    · rw [if_pos c, List.append_nil]; exact ih
    · rw [if_neg c, List.pairwise_append]
      refine ⟨ih, by simp, fun x hx y hy => ?_⟩
      obtain ⟨j, h1, h2, _⟩ := freeN_mem.1 hx
      have : y = offs f k := by simpa using hy
      subst this
      subst h2
      exact (offs_step h h1 (by omega)).2
theorem Laid7.frees {N : Nat} (h : Laid7 l N) : FreeL (freeN (txSee (fmt48 4800) l) N) ∧ 0 < (freeN (txSee (fmt48 4800) l) N).length := by
  have hg : ∀ k, k < N → bkP (txSee (fmt48 4800) l) (offs (txSee (fmt48 4800) l) k) := fun k hk => (h.walks.lt k hk).2
  refine ⟨⟨fun x hx => ?_, freeN_apart hg N (Nat.le_refl _)⟩, ?_⟩
  · obtain ⟨j, h1, h2, _⟩ := freeN_mem.1 hx
    have h3 := bk_ge (hg j h1)
    have h4 := offs_step hg h1 (Nat.le_refl N)
    rw [h.ends] at h4
    subst h2
    omega
  · obtain ⟨k, h1, h2⟩ := h.free
    exact List.length_pos_of_mem (freeN_mem.2 ⟨k, h1, rfl, h2⟩)
end
end Go.Proofs.YtoamlkljfmgomaaGreat

/-
  Blocks by their keys, as plain mathematics: told in rising turn, and that there is just one such turn.
  No condition.
-/
namespace Go.Proofs.YtoamlkljfmgomaaGreat
set_option linter.unusedVariables false
set_option linter.unusedSimpArgs false

/-- a's key is smaller than a size and an offset -/
def keyLt (z : Nat → Nat) (a s o : Nat) : Prop := z a < s ∨ (z a = s ∧ a < o)
instance {z : Nat → Nat} {a s o : Nat} : Decidable (keyLt z a s o) := by unfold keyLt; infer_instance
/-- a's key is smaller than b's -/
def blkLt (z : Nat → Nat) (a b : Nat) : Prop := keyLt z a (z b) b
instance {z : Nat → Nat} {a b : Nat} : Decidable (blkLt z a b) := by unfold blkLt; infer_instance
/-- by their keys, rising -/
def Rising (z : Nat → Nat) (l : List Nat) : Prop := l.Pairwise (blkLt z)
/-- laid among others: ahead of the first one whose key is greater -/
def insK (z : Nat → Nat) (x : Nat) (l : List Nat) : List Nat := l.takeWhile (fun y => decide (¬ blkLt z x y)) ++ x :: l.dropWhile (fun y => decide (¬ blkLt z x y))
/-- all of them, one behind the other laid among those ahead -/
def srtK (z : Nat → Nat) (l : List Nat) : List Nat := l.foldl (fun o x => insK z x o) []

section
variable {z : Nat → Nat} {a b c s o x : Nat} {l k : List Nat}
theorem blkLt.irr : ¬ blkLt z a a := by unfold blkLt keyLt; omega
theorem blkLt.trans (h : blkLt z a b) (k : blkLt z b c) : blkLt z a c := by unfold blkLt keyLt at *; omega
theorem blkLt.anti (h : blkLt z a b) : ¬ blkLt z b a := by unfold blkLt keyLt at *; omega
theorem blkLt.total (h : ¬ blkLt z a b) (hn : a ≠ b) : blkLt z b a := by unfold blkLt keyLt at *; omega
theorem blkLt.ne (h : blkLt z a b) : a ≠ b := by rintro rfl; exact blkLt.irr h
theorem Rising.nodup (h : Rising z l) : l.Nodup := List.Pairwise.imp (fun h => h.ne) h
theorem rising_ext : ∀ {l k : List Nat}, Rising z l → Rising z k → (∀ x, x ∈ l ↔ x ∈ k) → l = k
  | [], [], _, _, _ => rfl
  | [], b :: k, _, _, h => by have := (h b).2 (by simp); simp at this
  | a :: l, [], _, _, h => by have := (h a).1 (by simp); simp at this
  | a :: l, b :: k, hl, hk, h => by
    have hl' := List.pairwise_cons.1 hl
    have hk' := List.pairwise_cons.1 hk
    have hab : a = b := by
      rcases List.mem_cons.1 ((h a).1 (by simp)) with e | e
      · exact e
      · rcases List.mem_cons.1 ((h b).2 (by simp)) with e' | e'
        · exact e'.symm
        · exact absurd (hk'.1 a e) (hl'.1 b e').anti
    subst hab
    rw [rising_ext hl'.2 hk'.2]
    intro x
    have hx := h x
    simp only [List.mem_cons] at hx
    constructor
    · intro hm
      rcases hx.1 (Or.inr hm) with e | e
      · subst e; exact absurd (hl'.1 x hm) blkLt.irr
      · exact e
    · intro hm
      rcases hx.2 (Or.inr hm) with e | e
      · subst e; exact absurd (hk'.1 x hm) blkLt.irr
      · exact e
theorem insK_perm : (insK z x l).Perm (x :: l) := by
  unfold insK
  refine List.perm_middle.trans ?_
  rw [List.takeWhile_append_dropWhile]
theorem insK_mem : a ∈ insK z x l ↔ a = x ∨ a ∈ l := by rw [insK_perm.mem_iff]; simp
theorem insK_length : (insK z x l).length = l.length + 1 := by rw [insK_perm.length_eq]; rfl
theorem insK_cons : insK z x (a :: l) = if blkLt z x a then x :: a :: l else a :: insK z x l := by
  unfold insK
  by_cases h : blkLt z x a <;> simp [List.takeWhile_cons, List.dropWhile_cons, h]
theorem insK_rising : ∀ {l : List Nat}, Rising z l → x ∉ l → Rising z (insK z x l)
  | [], _, _ => by simp [insK, Rising]
  | a :: l, h, hn => by
    have h' := List.pairwise_cons.1 h
    rw [insK_cons]
    by_cases c : blkLt z x a
    · rw [if_pos c]
      refine List.pairwise_cons.2 ⟨?_, h⟩
      intro y hy
      rcases List.mem_cons.1 hy with e | e
      · subst e; exact c
      · exact c.trans (h'.1 y e)
    · rw [if_neg c]
      refine List.pairwise_cons.2 ⟨?_, insK_rising h'.2 fun hm => hn (by simp [hm])⟩
      intro y hy
      rcases insK_mem.1 hy with e | e
      · subst e; exact blkLt.total c (by intro e; apply hn; simp [e])
      · exact h'.1 y e
theorem srtK_snoc : srtK z (l ++ [x]) = insK z x (srtK z l) := by simp [srtK, List.foldl_append]
theorem srtK_foldl_perm : ∀ {l o : List Nat}, (l.foldl (fun o x => insK z x o) o).Perm (l ++ o)
  | [], o => List.Perm.refl _
  | x :: l, o => by
    simp only [List.foldl_cons, List.cons_append]
    refine (srtK_foldl_perm (l := l)).trans ?_
    refine (List.Perm.append_left l insK_perm).trans ?_
    exact List.perm_middle
theorem srtK_perm : (srtK z l).Perm l := by
  have := srtK_foldl_perm (z := z) (l := l) (o := [])
  simpa [srtK] using this
theorem srtK_mem : a ∈ srtK z l ↔ a ∈ l := srtK_perm.mem_iff
theorem srtK_length : (srtK z l).length = l.length := srtK_perm.length_eq
theorem srtK_rising_go : ∀ {l o : List Nat}, Rising z o → (∀ x, x ∈ l → x ∉ o) → l.Nodup → Rising z (l.foldl (fun o x => insK z x o) o)
  | [], o, h, _, _ => h
  | x :: l, o, h, hn, hd => by
    have hd' := List.nodup_cons.1 hd
    simp only [List.foldl_cons]
    refine srtK_rising_go (insK_rising h (hn x (by simp))) ?_ hd'.2
    intro y hy hm
    rcases insK_mem.1 hm with e | e
    · subst e; exact hd'.1 hy
    · exact hn y (by simp [hy]) e
theorem srtK_rising (h : l.Nodup) : Rising z (srtK z l) := srtK_rising_go (by simp [Rising]) (by simp) h
theorem srtK_ext (h : Rising z k) (hn : l.Nodup) (hm : ∀ x, x ∈ l ↔ x ∈ k) : srtK z l = k :=
  rising_ext (srtK_rising hn) h fun x => by rw [srtK_mem]; exact hm x
theorem srtK_of_perm (h : l.Perm k) (hn : l.Nodup) : srtK z l = srtK z k :=
  srtK_ext (srtK_rising (h.nodup_iff.1 hn)) hn fun x => by rw [srtK_mem]; exact h.mem_iff
theorem srtK_nil : srtK z [] = [] := rfl
/-- the keys of those that stand in the list alone count -/
theorem insK_congr {y : Nat → Nat} (hx : y x = z x) (h : ∀ a, a ∈ l → y a = z a) : insK y x l = insK z x l := by
  induction l with
  | nil => rfl
  | cons a l ih =>
    rw [insK_cons, insK_cons, ih fun b hb => h b (by simp [hb])]
    have : blkLt y x a ↔ blkLt z x a := by unfold blkLt keyLt; rw [hx, h a (by simp)]
    by_cases c : blkLt z x a
    · rw [if_pos c, if_pos (this.2 c)]
    · rw [if_neg c, if_neg fun d => c (this.1 d)]
theorem Rising.congr {y : Nat → Nat} (h : Rising z l) (hy : ∀ a, a ∈ l → y a = z a) : Rising y l := by
  unfold Rising at *
  refine List.Pairwise.imp_of_mem ?_ h
  intro a b ha hb hab
  unfold blkLt keyLt at *
  rw [hy a ha, hy b hb]; exact hab
theorem srtK_congr {y : Nat → Nat} (hn : l.Nodup) (h : ∀ a, a ∈ l → y a = z a) : srtK y l = srtK z l :=
  srtK_ext ((srtK_rising hn).congr fun a ha => h a (srtK_mem.1 ha)) hn fun x => srtK_mem.symm
theorem Rising.filter (h : Rising z l) (p : Nat → Bool) : Rising z (l.filter p) := List.Pairwise.filter _ h
theorem srtK_erase (hn : l.Nodup) : srtK z (l.filter fun a => a ≠ x) = (srtK z l).filter fun a => a ≠ x :=
  srtK_ext ((srtK_rising hn).filter _) (hn.filter _) fun a => by simp only [List.mem_filter, srtK_mem]
/-- the least key that is greater than a size and an offset -/
def aftK (z : Nat → Nat) (s o : Nat) (l : List Nat) : Option Nat := l.find? fun a => decide (¬ keyLt z a s o ∧ (z a ≠ s ∨ a ≠ o))
theorem keyGt_iff : (¬ keyLt z a s o ∧ (z a ≠ s ∨ a ≠ o)) ↔ (s < z a ∨ (z a = s ∧ o < a)) := by unfold keyLt; omega
/-- behind one of them the next one is told -/
theorem aftK_next : ∀ {l : List Nat} {i : Nat}, Rising z l → (h : i < l.length) → aftK z (z l[i]) l[i] l = l[i + 1]?
  | [], i, _, h => absurd h (by simp)
  | a :: l, 0, hr, h => by
    have h' := List.pairwise_cons.1 hr
    simp only [List.getElem_cons_zero, aftK, List.find?_cons, keyGt_iff]
    have : ¬ (z a < z a ∨ z a = z a ∧ a < a) := by omega
    simp only [this, decide_false, List.getElem?_cons_succ]
    cases l with
    | nil => simp
    | cons b l =>
      have hb := h'.1 b (by simp)
      have : (z a < z b ∨ z b = z a ∧ a < b) := by unfold blkLt keyLt at hb; omega
      simp [this, List.find?_cons]
  | a :: l, i + 1, hr, h => by
    have h' := List.pairwise_cons.1 hr
    simp only [List.length_cons] at h
    have hi : i < l.length := by omega
    have ih := aftK_next (i := i) h'.2 hi
    simp only [List.getElem_cons_succ, List.getElem?_cons_succ]
    rw [← ih]
    have hb := h'.1 l[i] (List.getElem_mem hi)
    have : ¬ (¬ keyLt z a (z l[i]) l[i] ∧ (z a ≠ z l[i] ∨ a ≠ l[i])) := by unfold blkLt at hb; exact fun c => c.1 hb
    unfold aftK
    rw [List.find?_cons]
    simp only [this, decide_false]
/-- from nothing on the first one is told -/
theorem aftK_first (h : ∀ a, a ∈ l → 0 < z a ∨ 0 < a) : aftK z 0 0 l = l[0]? := by
  cases l with
  | nil => rfl
  | cons a l =>
    have ha := h a (by simp)
    have : (0 < z a ∨ z a = 0 ∧ 0 < a) := by omega
    simp only [aftK, List.find?_cons, keyGt_iff, this, decide_true, List.getElem?_cons_zero]
/-- laid in at the place where no key ahead is greater, and the one there is -/
theorem insK_at : ∀ {l : List Nat} {n : Nat}, n ≤ l.length → (∀ j, j < n → ¬ blkLt z x (l.getD j 0)) → (n < l.length → blkLt z x (l.getD n 0)) → l.take n ++ x :: l.drop n = insK z x l
  | [], n, hn, _, _ => by simp [insK]
  | a :: l, 0, _, _, h => by
    have h0 : blkLt z x a := by simpa using h (by simp)
    rw [insK_cons, if_pos h0]; rfl
  | a :: l, n + 1, hn, hj, h => by
    have h0 : ¬ blkLt z x a := by simpa using hj 0 (by omega)
    simp only [List.length_cons] at hn h
    rw [insK_cons, if_neg h0, ← insK_at (l := l) (n := n) (by omega) (fun j h1 => by simpa using hj (j + 1) (by omega)) (fun h1 => by simpa using h (by omega))]
    rfl
theorem insK_right : ∀ {l k : List Nat}, (∀ y, y ∈ l → ¬ blkLt z x y) → insK z x (l ++ k) = l ++ insK z x k
  | [], k, _ => rfl
  | a :: l, k, h => by
    rw [List.cons_append, insK_cons, if_neg (h a (by simp)), insK_right fun y hy => h y (by simp [hy])]
    rfl
theorem insK_left : ∀ {l k : List Nat}, blkLt z x a → insK z x (l ++ a :: k) = insK z x l ++ a :: k
  | [], k, h => by rw [List.nil_append, insK_cons, if_pos h]; simp [insK]
  | b :: l, k, h => by
    rw [List.cons_append, insK_cons, insK_cons]
    by_cases c : blkLt z x b
    · rw [if_pos c, if_pos c]; rfl
    · rw [if_neg c, if_neg c, insK_left h]; rfl
theorem Rising.ahead {r : Nat} (h : Rising z (l ++ r :: k)) : (∀ y, y ∈ l → blkLt z y r) ∧ (∀ y, y ∈ k → blkLt z r y) ∧ Rising z l ∧ Rising z k := by
  obtain ⟨h1, h2, h3⟩ := List.pairwise_append.1 h
  have h2' := List.pairwise_cons.1 h2
  exact ⟨fun y hy => h3 y hy r (by simp), h2'.1, h1, h2'.2⟩
/-- one more in a tree's turn: it stands on the side of the root that its key says -/
theorem insK_root {r : Nat} (h : Rising z (l ++ r :: k)) (hx : x ≠ r) : insK z x (l ++ r :: k) = if blkLt z x r then insK z x l ++ r :: k else l ++ r :: insK z x k := by
  by_cases c : blkLt z x r
  · rw [if_pos c]; exact insK_left c
  · rw [if_neg c]
    have c' := blkLt.total c hx
    rw [insK_right fun y hy => ((h.ahead.1 y hy).trans c').anti, insK_cons, if_neg c]
/-- one less -/
theorem filter_root {r : Nat} (h : Rising z (l ++ r :: k)) (hx : x ≠ r) : (l ++ r :: k).filter (fun a => decide (a ≠ x)) = l.filter (fun a => decide (a ≠ x)) ++ r :: k.filter (fun a => decide (a ≠ x)) := by
  rw [List.filter_append, List.filter_cons, if_pos (by simpa using hx.symm)]
theorem filter_not (h : x ∉ l) : l.filter (fun a => decide (a ≠ x)) = l := by
  rw [List.filter_eq_self]
  intro a ha
  have : a ≠ x := by rintro rfl; exact h ha
  simpa using this
theorem filter_top {r : Nat} (h : Rising z (l ++ r :: k)) : (l ++ r :: k).filter (fun a => decide (a ≠ r)) = l ++ k := by
  have hl : r ∉ l := fun hm => blkLt.irr (h.ahead.1 r hm)
  have hk : r ∉ k := fun hm => blkLt.irr (h.ahead.2.1 r hm)
  rw [List.filter_append, List.filter_cons, if_neg (by simp), filter_not hl, filter_not hk]
/-- one taken out at its place -/
theorem pick_perm {n : Nat} (h : n < l.length) : (l[n] :: (l.take n ++ l.drop (n + 1))).Perm l := by
  have e : l.take n ++ l[n] :: l.drop (n + 1) = l := by
    rw [← List.drop_eq_getElem_cons h, List.take_append_drop]
  have := (List.perm_middle (a := l[n]) (l₁ := l.take n) (l₂ := l.drop (n + 1))).symm
  rw [e] at this
  exact this
end
end Go.Proofs.YtoamlkljfmgomaaGreat

/-
  Ranks, and what of a tree's words stays where another block's sons, or the root, are stored.
  No condition.
-/
namespace Go.Proofs.YtoamlkljfmgomaaGreat
open Go.RowKit
set_option linter.unusedVariables false
set_option linter.unusedSimpArgs false

theorem rk_inj_of (a b C D M : Int) (h1 : (C * D) % M = 1 % M) (ha : a % M = a) (hb : b % M = b) (h : (a * C) % M = (b * C) % M) : a = b := by
  have h2 : (a * C * D) % M = (b * C * D) % M := by rw [Int.mul_emod (a * C), h, ← Int.mul_emod]
  have key : ∀ x : Int, x % M = x → (x * C * D) % M = x := by
    intro x hx
    rw [Int.mul_assoc, Int.mul_emod, h1, ← Int.mul_emod, Int.mul_one, hx]
  rw [← key a ha, ← key b hb, h2]
theorem nat_u64 (x : Nat) (hx : x < 18446744073709551616) : (x : Int) % 18446744073709551616 = x := Int.emod_eq_of_lt (by omega) (by omega)
theorem wrap_nat (y : Int) : IntKind.u64.wrap y = ((IntKind.u64.wrap y).toNat : Nat) := by rw [IntKind.wrap_u64]; omega
/-- a block's rank -/
def rkN (x : Nat) : Nat := (IntKind.u64.wrap ((x : Int) * 11400714819323198485)).toNat
theorem rkN_wrap (x : Nat) : IntKind.u64.wrap ((x : Int) * 11400714819323198485) = (rkN x : Nat) := wrap_nat _
theorem rkN_inj {x y : Nat} (hx : x < 18446744073709551616) (hy : y < 18446744073709551616) (h : rkN x = rkN y) : x = y := by
  have h2 : IntKind.u64.wrap ((x : Int) * 11400714819323198485) = IntKind.u64.wrap ((y : Int) * 11400714819323198485) := by rw [rkN_wrap, rkN_wrap, h]
  simp only [IntKind.wrap_u64] at h2
  exact Int.ofNat.inj (rk_inj_of x y 11400714819323198485 17428512612931826493 18446744073709551616 (by decide +kernel) (nat_u64 x hx) (nat_u64 y hy) h2)
section
variable {f g rk : Nat → Nat} {F l : List Nat} {r x y : Nat}
theorem FreeL.sons (h : FreeL F) (hx : x ∈ F) {n : Nat} : stands (fmt48 n) x ∧ stands (fmt48 n) (x + 8) ∧ stands (fmt48 n) (x + 16) ∧ x < 18446744073709551616 := by
  obtain ⟨h1, h2, h3⟩ := h.on x hx
  exact ⟨stands48 (by omega) (by omega), stands48 (by omega) (by omega), stands48 (by omega) (by omega), by omega⟩
/-- another block's sons, and the root, are no first word of a block, and no son of it -/
theorem FreeL.else_ (h : FreeL F) (hx : x ∈ F) (hy : y ∈ F) (hg : ∀ k, k ≠ y + 8 → k ≠ y + 16 → k ≠ 32 → g k = f k) : g x = f x ∧ (x ≠ y → g (x + 8) = f (x + 8) ∧ g (x + 16) = f (x + 16)) := by
  obtain ⟨h1, h2, h3⟩ := h.on x hx
  obtain ⟨k1, k2, k3⟩ := h.on y hy
  have hne : x ≠ y + 16 := fun e => by
    rcases h.far hx hy (by omega) with h4 | h4 <;> omega
  refine ⟨hg x (by omega) hne (by omega), fun hn => ?_⟩
  have hf := h.far hx hy hn
  exact ⟨hg _ (by omega) (by omega) (by omega), hg _ (by omega) (by omega) (by omega)⟩
theorem TreeOf.past (h : TreeOf f rk r l) (hF : FreeL F) (hl : ∀ x, x ∈ l → x ∈ F) (hy : y ∈ F) (hn : y ∉ l) (hg : ∀ k, k ≠ y + 8 → k ≠ y + 16 → k ≠ 32 → g k = f k) : TreeOf g rk r l :=
  h.frame fun x hx => (hF.else_ (hl x hx) hy hg).2 fun e => hn (e ▸ hx)
/-- the root alone is stored -/
theorem TreeOf.planted (h : TreeOf f rk r l) (hF : FreeL F) (hl : ∀ x, x ∈ l → x ∈ F) (hg : ∀ k, k ≠ 32 → g k = f k) : TreeOf g rk r l :=
  h.frame fun x hx => by
    obtain ⟨h1, h2, h3⟩ := hF.on x (hl x hx)
    exact ⟨hg _ (by omega), hg _ (by omega)⟩
/-- The words say the tree of the blocks l, by their keys; F: where blocks may stand. -/
structure TreeIs (f z : Nat → Nat) (F l : List Nat) : Prop where
  free : FreeL F
  sub : ∀ x, x ∈ l → x ∈ F
  nodup : l.Nodup
  tree : TreeOf f rkN (f 32) (srtK z l)
theorem TreeIs.perm {z : Nat → Nat} {k : List Nat} (h : TreeIs f z F l) (hp : l.Perm k) : TreeIs f z F k :=
  ⟨h.free, fun x hx => h.sub x (hp.mem_iff.2 hx), hp.nodup_iff.1 h.nodup, by rw [← srtK_of_perm hp h.nodup]; exact h.tree⟩
theorem TreeIs.nil {z : Nat → Nat} (h : FreeL F) (h0 : f 32 = 0) : TreeIs f z F [] := ⟨h, by simp, by simp, by rw [h0]; exact TreeOf.nil⟩
theorem TreeIs.same {z : Nat → Nat} (h : TreeIs f z F l) (k : TreeIs g z F l) : f 32 = g 32 ∧ ∀ x, x ∈ l → f (x + 8) = g (x + 8) ∧ f (x + 16) = g (x + 16) := by
  obtain ⟨h1, h2⟩ := h.tree.same k.tree
  exact ⟨h1, fun x hx => h2 x (srtK_mem.2 hx)⟩
end
end Go.Proofs.YtoamlkljfmgomaaGreat

/-
  How a block comes into a tree, and goes, link by link, as plain mathematics.
  No condition.
-/
namespace Go.Proofs.YtoamlkljfmgomaaGreat
open Go.RowKit
set_option linter.unusedVariables false
set_option linter.unusedSimpArgs false

section
variable {f f1 g g' z : Nat → Nat} {F S l : List Nat} {off lk n k : Nat}
theorem FreeL.free_apart (h : FreeL F) : Apart 32 (fun x => x ∈ F) where
  far := fun x y hx hy hn => by have := h.far hx hy hn; omega
  root := fun x hx => by have := h.on x hx; omega
theorem FreeL.son_apart (h : FreeL F) (ho : off ∈ F) {r : Nat} (hr : r = off + 8 ∨ r = off + 16) : Apart r (fun x => x ∈ F ∧ x ≠ off) where
  far := fun x y hx hy hn => by have := h.far hx.1 hy.1 hn; omega
  root := fun x hx => by have := h.far hx.1 ho hx.2; omega
/-- What a tree's blocks are. -/
structure Tame (z : Nat → Nat) (F S : List Nat) : Prop where
  free : FreeL F
  rise : Rising z S
  sub : ∀ x, x ∈ S → x ∈ F
theorem Tame.lt (h : Tame z F S) {x : Nat} (hx : x ∈ F) : x < 18446744073709551616 := by have := h.free.on x hx; omega
theorem Tame.rk (h : Tame z F S) {x y : Nat} (hx : x ∈ F) (hy : y ∈ F) (hn : x ≠ y) : rkN x ≠ rkN y := fun e => hn (rkN_inj (h.lt hx) (h.lt hy) e)
theorem part_out {pre m post : List Nat} (h : (pre ++ m ++ post).Nodup) {x : Nat} (hx : x ∈ m) : x ∉ pre ++ post := by
  intro hm
  rw [List.nodup_append] at h
  obtain ⟨h1, h2, h3⟩ := h
  rw [List.nodup_append] at h1
  rcases List.mem_append.1 hm with hm | hm
  · exact h1.2.2 x hm x hx rfl
  · exact h3 x (by simp [hx]) x hm rfl
/-- The way down to where a block stands, or would. -/
def FindAt (f z : Nat → Nat) (F S : List Nat) (off lk n k : Nat) : Prop :=
  ∃ pre m post P, m.length = k ∧ S = pre ++ m ++ post ∧ Hole f rkN 32 (fun x => x ∈ F) lk pre post P ∧ f lk = n ∧ TreeOf f rkN n m ∧ (∀ x, x ∈ m → P x) ∧ P off ∧ (∀ x, x ∈ pre → blkLt z x off) ∧ (∀ x, x ∈ post → blkLt z off x)
theorem find_start (h : Tame z F S) (ht : TreeOf f rkN (f 32) S) : FindAt f z F S off 32 (f 32) S.length :=
  ⟨[], S, [], _, rfl, by simp, Hole.start h.free.free_apart, rfl, ht, fun _ _ => trivial, trivial, by simp, by simp⟩
theorem FindAt.at_ (h : FindAt f z F S off lk n k) : f lk = n := by obtain ⟨_, _, _, _, _, _, _, e, _⟩ := h; exact e
theorem FindAt.link (h : FindAt f z F S off lk n k) : lk = 32 ∨ ∃ x, x ∈ F ∧ (lk = x + 8 ∨ lk = x + 16) := by
  obtain ⟨_, _, _, _, _, _, hh, _⟩ := h
  rcases hh.link with e | ⟨x, hx, e⟩
  · exact .inl e
  · exact .inr ⟨x, hh.sub x hx, e⟩
theorem FindAt.mem (h : FindAt f z F S off lk n k) (h0 : n ≠ 0) : n ∈ S := by
  obtain ⟨pre, m, post, P, _, rfl, _, _, ht, _⟩ := h
  have := ht.mem h0
  simp [this]
theorem find_left (hT : Tame z F S) (h : FindAt f z F S off lk n k) (h0 : n ≠ 0) (hr : rkN off < rkN n) (hlt : blkLt z off n) : ∃ j, j < k ∧ FindAt f z F S off (n + 8) (f (n + 8)) j := by
  obtain ⟨pre, m, post, P, rfl, rfl, hh, e, ht, hP, hPo, h1, h2⟩ := h
  obtain ⟨L, R, rfl, hL, hR, tL, tR⟩ := ht.some h0
  have hnd := hT.rise.nodup
  have hA : ∀ x, x ∈ L ++ n :: R → x ∈ F := fun x hx => hT.sub x (mem_mid hx)
  have hout : ∀ x, x ∈ L ++ n :: R → x ∉ pre ++ post := fun x hx => part_out hnd hx
  have hnd2 : (L ++ n :: R).Nodup := by
    have := (List.nodup_append.1 hnd).1
    exact (List.nodup_append.1 this).2.1
  have hnd3 := List.nodup_cons.1 (List.nodup_append.1 hnd2).2.1
  have hris : Rising z (L ++ n :: R) := by
    have h3 := hT.rise
    unfold Rising at h3 ⊢
    exact (List.pairwise_append.1 (List.pairwise_append.1 h3).1).2.1
  refine ⟨L.length, by simp only [List.length_append, List.length_cons]; omega, pre, L, n :: (R ++ post), _, rfl, by simp, hh.left e h0 (fun x hx => hA x (by simp only [List.mem_append]; exact .inr hx)) (hout n (by simp)) hnd3.1 (fun x hx => hP x (by simp only [List.mem_append]; exact .inr hx)) hR (fun x hx => hout x (by simp [hx])) tR, rfl, tL, fun x hx => ⟨hP x (by simp [hx]), hL x hx⟩, ⟨hPo, hr⟩, h1, fun x hx => ?_⟩
  rcases List.mem_cons.1 hx with rfl | hx
  · exact hlt
  · rcases List.mem_append.1 hx with hx | hx
    · exact hlt.trans (hris.ahead.2.1 x hx)
    · exact h2 x hx
theorem find_right (hT : Tame z F S) (h : FindAt f z F S off lk n k) (h0 : n ≠ 0) (hr : rkN off < rkN n) (hlt : blkLt z n off) : ∃ j, j < k ∧ FindAt f z F S off (n + 16) (f (n + 16)) j := by
  obtain ⟨pre, m, post, P, rfl, rfl, hh, e, ht, hP, hPo, h1, h2⟩ := h
  obtain ⟨L, R, rfl, hL, hR, tL, tR⟩ := ht.some h0
  have hnd := hT.rise.nodup
  have hA : ∀ x, x ∈ L ++ n :: R → x ∈ F := fun x hx => hT.sub x (mem_mid hx)
  have hout : ∀ x, x ∈ L ++ n :: R → x ∉ pre ++ post := fun x hx => part_out hnd hx
  have hnd2 : (L ++ n :: R).Nodup := by
    have := (List.nodup_append.1 hnd).1
    exact (List.nodup_append.1 this).2.1
  have hnL : n ∉ L := fun hm => (List.nodup_append.1 hnd2).2.2 n hm n (by simp) rfl
  have hris : Rising z (L ++ n :: R) := by
    have h3 := hT.rise
    unfold Rising at h3 ⊢
    exact (List.pairwise_append.1 (List.pairwise_append.1 h3).1).2.1
  have hcons : ∀ x, x ∈ n :: L → x ∈ L ++ n :: R := fun x hx => by
    rcases List.mem_cons.1 hx with rfl | hx
    · simp
    · simp [hx]
  refine ⟨R.length, by simp; omega, pre ++ (L ++ [n]), R, post, _, rfl, by simp, hh.right e h0 (fun x hx => hA x (hcons x hx)) (hout n (by simp)) hnL (fun x hx => hP x (hcons x hx)) hL (fun x hx => hout x (by simp [hx])) tL, rfl, tR, fun x hx => ⟨hP x (by simp [hx]), hR x hx⟩, ⟨hPo, hr⟩, fun x hx => ?_, h2⟩
  simp only [List.mem_append, List.mem_cons, List.not_mem_nil, or_false] at hx
  rcases hx with hx | hx | rfl
  · exact h1 x hx
  · exact (hris.ahead.1 x hx).trans hlt
  · exact hlt
/-- where the way ends -/
theorem find_end (hT : Tame z F S) (ho : off ∈ F) (h : FindAt f z F S off lk n k) (hr : n = 0 ∨ rkN n ≤ rkN off) : (n = off ↔ off ∈ S) ∧ (off ∈ S → n ≠ 0) := by
  have ho0 : off ≠ 0 := by have := hT.free.on off ho; omega
  constructor
  · constructor
    · intro e
      rw [e] at h
      exact h.mem ho0
    · intro hm
      obtain ⟨pre, m, post, P, rfl, rfl, hh, e, ht, hP, hPo, h1, h2⟩ := h
      have hom : off ∈ m := by
        simp only [List.mem_append] at hm
        rcases hm with (hm | hm) | hm
        · exact absurd (h1 off hm) blkLt.irr
        · exact hm
        · exact absurd (h2 off hm) blkLt.irr
      have h0 : n ≠ 0 := fun e0 => by
        rw [e0] at ht
        rw [ht.zero] at hom
        simp at hom
      have hr' : rkN n ≤ rkN off := by
        rcases hr with hr | hr
        · exact absurd hr h0
        · exact hr
      obtain ⟨L, R, rfl, hL, hR, tL, tR⟩ := ht.some h0
      simp only [List.mem_append, List.mem_cons] at hom
      rcases hom with hom | hom | hom
      · have := hL off hom; omega
      · exact hom.symm
      · have := hR off hom; omega
  · intro hm e0
    obtain ⟨pre, m, post, P, rfl, rfl, hh, e, ht, hP, hPo, h1, h2⟩ := h
    rw [e0] at ht
    rw [ht.zero] at hm
    simp only [List.append_nil, List.mem_append] at hm
    rcases hm with hm | hm
    · exact absurd (h1 off hm) blkLt.irr
    · exact absurd (h2 off hm) blkLt.irr
/-- What turns is sons of these, and the root. -/
def Kept (F : List Nat) (f g : Nat → Nat) : Prop := ∀ q, q ≠ 32 → (∀ x, x ∈ F → q ≠ x + 8 ∧ q ≠ x + 16) → g q = f q
theorem Kept.refl : Kept F f f := fun _ _ _ => rfl
theorem Kept.trans (h : Kept F f g) (k : Kept F g g') : Kept F f g' := fun q h1 h2 => (k q h1 h2).trans (h q h1 h2)
theorem Kept.put (hl : lk = 32 ∨ ∃ x, x ∈ F ∧ (lk = x + 8 ∨ lk = x + 16)) (hg : ∀ q, q ≠ lk → g q = f q) : Kept F f g := fun q h1 h2 => hg q fun e => by
  rcases hl with h | ⟨x, hx, h⟩
  · omega
  · have := h2 x hx; omega
/-- first words of blocks are no links -/
theorem Kept.first (h : Kept F f g) (hF : FreeL F) {x : Nat} (hx : x ∈ F) : g x = f x := by
  refine h x (by have := hF.on x hx; omega) fun y hy => ?_
  rcases Nat.decEq x y with hn | rfl
  · have := hF.far hx hy hn; omega
  · omega
/-! ### split -/
/-- What is below is split: so much has gone to the left, and to the right. -/
def SplitAt (f g z : Nat → Nat) (F l : List Nat) (off left right n k : Nat) : Prop :=
  ∃ a m b PL PR, m.length = k ∧ l = a ++ m ++ b ∧ Hole g rkN (off + 8) (fun x => x ∈ F ∧ x ≠ off) left a [] PL ∧ Hole g rkN (off + 16) (fun x => x ∈ F ∧ x ≠ off) right [] b PR ∧ TreeOf g rkN n m ∧ (∀ x, x ∈ m → PL x ∧ PR x) ∧ (∀ x, x ∈ a → blkLt z x off) ∧ (∀ x, x ∈ b → blkLt z off x) ∧
    ∀ q, q ≠ off + 8 → q ≠ off + 16 → (∀ x, x ∈ l → q ≠ x + 8 ∧ q ≠ x + 16) → g q = f q
/-- Blocks of a tree below a block that isn't one of them. -/
structure Under (z : Nat → Nat) (F l : List Nat) (off : Nat) : Prop where
  free : FreeL F
  mem : off ∈ F
  rise : Rising z l
  sub : ∀ x, x ∈ l → x ∈ F ∧ x ≠ off
theorem split_start (hU : Under z F l off) (ht : TreeOf f rkN n l) : SplitAt f f z F l off (off + 8) (off + 16) n l.length :=
  ⟨[], l, [], _, _, rfl, by simp, Hole.start (hU.free.son_apart hU.mem (.inl rfl)), Hole.start (hU.free.son_apart hU.mem (.inr rfl)), ht, fun _ _ => ⟨trivial, trivial⟩, by simp, by simp, fun _ _ _ _ => rfl⟩
theorem SplitAt.links {left right : Nat} (h : SplitAt f g z F l off left right n k) : (left = off + 8 ∨ ∃ x, x ∈ l ∧ (left = x + 8 ∨ left = x + 16)) ∧ (right = off + 16 ∨ ∃ x, x ∈ l ∧ (right = x + 8 ∨ right = x + 16)) := by
  obtain ⟨a, m, b, PL, PR, _, rfl, h1, h2, _⟩ := h
  constructor
  · rcases h1.link with e | ⟨x, hx, e⟩
    · exact .inl e
    · refine .inr ⟨x, ?_, e⟩
      simp only [List.append_nil] at hx
      simp [hx]
  · rcases h2.link with e | ⟨x, hx, e⟩
    · exact .inl e
    · refine .inr ⟨x, ?_, e⟩
      simp only [List.nil_append] at hx
      simp [hx]
theorem SplitAt.mem {left right : Nat} (h : SplitAt f g z F l off left right n k) (h0 : n ≠ 0) : n ∈ l := by
  obtain ⟨a, m, b, PL, PR, _, rfl, h1, h2, ht, _⟩ := h
  have := ht.mem h0
  simp [this]
theorem part_far {a m b : List Nat} (h : (a ++ m ++ b).Nodup) : (∀ x, x ∈ m → x ∉ a) ∧ (∀ x, x ∈ m → x ∉ b) ∧ ∀ x, x ∈ a → x ∉ b := by
  rw [List.nodup_append] at h
  obtain ⟨h1, h2, h3⟩ := h
  rw [List.nodup_append] at h1
  exact ⟨fun x hx hy => h1.2.2 x hy x hx rfl, fun x hx hy => h3 x (by simp [hx]) x hy rfl, fun x hx hy => h3 x (by simp [hx]) x hy rfl⟩
/-- the links of the two sides are unlike, and no side's link is the other side's word -/
theorem sides {A : Nat → Prop} {root root' left : Nat} {P : Nat → Prop} {pre post o : List Nat} (h : Hole g rkN root A left pre post P) (hA : ∀ x, x ∈ o → A x) (hr : root' ≠ root) (hs : ∀ x, A x → x + 8 ≠ root' ∧ x + 16 ≠ root') (hn : ∀ x, x ∈ o → x ∉ pre ++ post) : root' ≠ left ∧ ∀ x, x ∈ o → x + 8 ≠ left ∧ x + 16 ≠ left := by
  refine ⟨?_, fun x hx => h.off (hA x hx) (hn x hx)⟩
  rcases h.link with e | ⟨y, hy, e⟩
  · rw [e]; exact hr
  · have := hs y (h.sub y hy)
    omega
theorem rank_or {t : Nat} {L : List Nat} (ht : TreeOf g rkN t L) (hL : ∀ x, x ∈ L → rkN x < rkN n) : t = 0 ∨ rkN t < rkN n := by
  by_cases e : t = 0
  · exact .inl e
  · exact .inr (hL t (ht.mem e))
theorem split_left {left right : Nat} (hU : Under z F l off) (h : SplitAt f g z F l off left right n k) (h0 : n ≠ 0) (hlt : blkLt z n off) (hg : ∀ q, q ≠ left → g' q = g q) (hg2 : g' left = n) : ∃ j, j < k ∧ SplitAt f g' z F l off (n + 16) right (g' (n + 16)) j ∧ (g' (n + 16) = 0 ∨ rkN (g' (n + 16)) < rkN n) := by
  have hlk := h.links.1
  obtain ⟨a, m, b, PL, PR, rfl, rfl, h1, h2, ht, hP, ha, hb, hf⟩ := h
  obtain ⟨L, R, rfl, hL, hR, tL, tR⟩ := ht.some h0
  obtain ⟨o1, o2, o3⟩ := part_far hU.rise.nodup
  have hA : ∀ x, x ∈ L ++ n :: R → x ∈ F ∧ x ≠ off := fun x hx => hU.sub x (mem_mid hx)
  have hB : ∀ x, x ∈ b → x ∈ F ∧ x ≠ off := fun x hx => hU.sub x (by simp [hx])
  have hout : ∀ x, x ∈ L ++ n :: R → x ∉ a ++ [] := fun x hx => by rw [List.append_nil]; exact o1 x hx
  have hris : Rising z (L ++ n :: R) := by
    have h3 := hU.rise
    unfold Rising at h3 ⊢
    exact (List.pairwise_append.1 (List.pairwise_append.1 h3).1).2.1
  have hnL : n ∉ L := fun hm => blkLt.irr (hris.ahead.1 n hm)
  have hcons : ∀ x, x ∈ n :: L → x ∈ L ++ n :: R := fun x hx => by
    rcases List.mem_cons.1 hx with rfl | hx
    · simp
    · simp [hx]
  have h1' := h1.put hg
  have tm : TreeOf g' rkN n (L ++ n :: R) := h1.keeps hg hA hout ht
  obtain ⟨L', R', e, _, _, tL', tR'⟩ := tm.some h0
  obtain ⟨rfl, -, rfl⟩ := root_split e hL hR (by assumption) (by assumption)
  have hrt := sides h1 hB (show off + 16 ≠ off + 8 by omega) (fun x hx => (hU.free.son_apart hU.mem (.inr rfl)).root x hx) (fun x hx => by rw [List.append_nil]; exact fun hy => o3 x hy hx)
  refine ⟨R.length, by simp; omega, ⟨a ++ (L ++ [n]), R, b, _, PR, rfl, by simp, h1'.right hg2 h0 (fun x hx => hA x (hcons x hx)) (hout n (by simp)) hnL (fun x hx => (hP x (hcons x hx)).1) hL (fun x hx => hout x (by simp [hx])) tL', ?_, tR', fun x hx => ⟨⟨(hP x (by simp [hx])).1, hR x hx⟩, (hP x (by simp [hx])).2⟩, fun x hx => ?_, hb, fun q q1 q2 q3 => ?_⟩, rank_or tR' hR⟩
  · refine h2.frame (fun x hx => ?_) fun _ => hg _ hrt.1
    have := hrt.2 x (by simpa using hx)
    exact ⟨fun _ => hg _ this.1, fun _ => hg _ this.2⟩
  · simp only [List.mem_append, List.mem_cons, List.not_mem_nil, or_false] at hx
    rcases hx with hx | hx | rfl
    · exact ha x hx
    · exact (hris.ahead.1 x hx).trans hlt
    · exact hlt
  · rw [hg q, hf q q1 q2 q3]
    rcases hlk with e | ⟨x, hx, e⟩
    · omega
    · have := q3 x hx; omega
theorem split_right {left right : Nat} (hU : Under z F l off) (h : SplitAt f g z F l off left right n k) (h0 : n ≠ 0) (hlt : blkLt z off n) (hg : ∀ q, q ≠ right → g' q = g q) (hg2 : g' right = n) : ∃ j, j < k ∧ SplitAt f g' z F l off left (n + 8) (g' (n + 8)) j ∧ (g' (n + 8) = 0 ∨ rkN (g' (n + 8)) < rkN n) := by
  have hlk := h.links.2
  obtain ⟨a, m, b, PL, PR, rfl, rfl, h1, h2, ht, hP, ha, hb, hf⟩ := h
  obtain ⟨L, R, rfl, hL, hR, tL, tR⟩ := ht.some h0
  obtain ⟨o1, o2, o3⟩ := part_far hU.rise.nodup
  have hA : ∀ x, x ∈ L ++ n :: R → x ∈ F ∧ x ≠ off := fun x hx => hU.sub x (mem_mid hx)
  have hB : ∀ x, x ∈ a → x ∈ F ∧ x ≠ off := fun x hx => hU.sub x (by simp [hx])
  have hout : ∀ x, x ∈ L ++ n :: R → x ∉ [] ++ b := fun x hx => by rw [List.nil_append]; exact o2 x hx
  have hris : Rising z (L ++ n :: R) := by
    have h3 := hU.rise
    unfold Rising at h3 ⊢
    exact (List.pairwise_append.1 (List.pairwise_append.1 h3).1).2.1
  have hnR : n ∉ R := fun hm => blkLt.irr (hris.ahead.2.1 n hm)
  have hcons : ∀ x, x ∈ n :: R → x ∈ L ++ n :: R := fun x hx => by simp only [List.mem_append]; exact .inr hx
  have h2' := h2.put hg
  have tm : TreeOf g' rkN n (L ++ n :: R) := h2.keeps hg hA hout ht
  obtain ⟨L', R', e, _, _, tL', tR'⟩ := tm.some h0
  obtain ⟨rfl, -, rfl⟩ := root_split e hL hR (by assumption) (by assumption)
  have hrt := sides h2 hB (show off + 8 ≠ off + 16 by omega) (fun x hx => (hU.free.son_apart hU.mem (.inl rfl)).root x hx) (fun x hx => by rw [List.nil_append]; exact fun hy => o3 x hx hy)
  refine ⟨L.length, by simp only [List.length_append, List.length_cons]; omega, ⟨a, L, n :: (R ++ b), PL, _, rfl, by simp, ?_, h2'.left hg2 h0 (fun x hx => hA x (hcons x hx)) (hout n (by simp)) hnR (fun x hx => (hP x (hcons x hx)).2) hR (fun x hx => hout x (by simp [hx])) tR', tL', fun x hx => ⟨(hP x (by simp [hx])).1, (hP x (by simp [hx])).2, hL x hx⟩, ha, fun x hx => ?_, fun q q1 q2 q3 => ?_⟩, rank_or tL' hL⟩
  · refine h1.frame (fun x hx => ?_) fun _ => hg _ hrt.1
    have := hrt.2 x (by simpa using hx)
    exact ⟨fun _ => hg _ this.1, fun _ => hg _ this.2⟩
  · rcases List.mem_cons.1 hx with rfl | hx
    · exact hlt
    · rcases List.mem_append.1 hx with hx | hx
      · exact hlt.trans (hris.ahead.2.1 x hx)
      · exact hb x hx
  · rw [hg q, hf q q1 q2 q3]
    rcases hlk with e | ⟨x, hx, e⟩
    · omega
    · have := q3 x hx; omega
/-- nothing is left: both ends lead to nobody -/
theorem split_end {left right : Nat} {g2 : Nat → Nat} (hU : Under z F l off) (h : SplitAt f g z F l off left right 0 k) (hg : ∀ q, q ≠ left → g' q = g q) (hg0 : g' left = 0) (hk : ∀ q, q ≠ right → g2 q = g' q) (hk0 : g2 right = 0) :
    ∃ a b, l = a ++ b ∧ (∀ x, x ∈ a → blkLt z x off) ∧ (∀ x, x ∈ b → blkLt z off x) ∧ TreeOf g2 rkN (g2 (off + 8)) a ∧ TreeOf g2 rkN (g2 (off + 16)) b ∧ ∀ q, q ≠ off + 8 → q ≠ off + 16 → (∀ x, x ∈ l → q ≠ x + 8 ∧ q ≠ x + 16) → g2 q = f q := by
  obtain ⟨hl1, hl2⟩ := h.links
  obtain ⟨a, m, b, PL, PR, rfl, rfl, h1, h2, ht, hP, ha, hb, hf⟩ := h
  have hm := ht.zero
  subst hm
  obtain ⟨o1, o2, o3⟩ := part_far hU.rise.nodup
  have hA : ∀ x, x ∈ a → x ∈ F ∧ x ≠ off := fun x hx => hU.sub x (by simp [hx])
  have hB : ∀ x, x ∈ b → x ∈ F ∧ x ≠ off := fun x hx => hU.sub x (by simp [hx])
  have s1 := sides h1 hB (show off + 16 ≠ off + 8 by omega) (fun x hx => (hU.free.son_apart hU.mem (.inr rfl)).root x hx) (fun x hx => by rw [List.append_nil]; exact fun hy => o3 x hy hx)
  have s2 := sides h2 hA (show off + 8 ≠ off + 16 by omega) (fun x hx => (hU.free.son_apart hU.mem (.inl rfl)).root x hx) (fun x hx => by rw [List.nil_append]; exact fun hy => o3 x hx hy)
  have hlr : left ≠ right := by
    rcases h2.link with e | ⟨x, hx, e⟩
    · rw [e]; exact s1.1.symm
    · have := s1.2 x (by simpa using hx)
      omega
  have e1 : TreeOf g' rkN (g' (off + 8)) (a ++ [] ++ []) := (h1.put hg).fill g' [] (fun x _ => ⟨fun _ => rfl, fun _ => rfl⟩) (fun _ => rfl) (by simp) (by rw [hg0]; exact TreeOf.nil)
  have h2' : Hole g2 rkN (off + 16) (fun x => x ∈ F ∧ x ≠ off) right [] b PR := by
    refine Hole.put (f := g') (h2.frame (fun x hx => ?_) fun _ => hg _ s1.1) hk
    have := s1.2 x (by simpa using hx)
    exact ⟨fun _ => hg _ this.1, fun _ => hg _ this.2⟩
  have e2 : TreeOf g2 rkN (g2 (off + 16)) ([] ++ [] ++ b) := h2'.fill g2 [] (fun x _ => ⟨fun _ => rfl, fun _ => rfl⟩) (fun _ => rfl) (by simp) (by rw [hk0]; exact TreeOf.nil)
  simp only [List.append_nil, List.nil_append] at e1 e2
  refine ⟨a, b, by simp, ha, hb, ?_, e2, fun q q1 q2 q3 => ?_⟩
  · rw [hk _ s2.1]
    refine e1.frame fun x hx => ?_
    have := s2.2 x hx
    exact ⟨hk _ this.1, hk _ this.2⟩
  · rw [hk q, hg q, hf q q1 q2 q3]
    · rcases hl1 with e | ⟨x, hx, e⟩
      · omega
      · have := q3 x hx; omega
    · rcases hl2 with e | ⟨x, hx, e⟩
      · omega
      · have := q3 x hx; omega
end
end Go.Proofs.YtoamlkljfmgomaaGreat

/-
  Package tree: the contracts of key, toward, lead and find.
  Conditions: the Tx stands in memory; of find: the words say a tree.
-/
namespace Go.Proofs.YtoamlkljfmgomaaGreat
open Go.RowKit
set_option linter.unusedVariables false
set_option linter.unusedSimpArgs false

theorem mix_rk (x : Nat) (w : World) : Calls Tryz.prog 102 #[.int .u64 x] w fun e w' => e = .returned (.int .u64 (rkN x : Nat)) ∧ w = w' := by
  have := mix_any x w
  rwa [rkN_wrap] at this
theorem rkN_zero : rkN 0 = 0 := by unfold rkN; rw [IntKind.wrap_u64]; rfl
/-- the first key is smaller -/
def ltK (s o s' o' : Nat) : Prop := s < s' ∨ (s = s' ∧ o < o')
instance (s o s' o' : Nat) : Decidable (ltK s o s' o') := by unfold ltK; infer_instance
theorem cmpK_lt {s o s' o' : Nat} (h : ltK s o s' o') : cmpK s o s' o' = -1 := by
  unfold cmpK ltK at *
  rcases h with h | ⟨rfl, h⟩
  · rw [cmpN_lt h]; simp
  · rw [cmpN_eq, if_pos rfl, cmpN_lt h]
theorem cmpK_ge {s o s' o' : Nat} (h : ¬ ltK s o s' o') : cmpK s o s' o' = 0 ∨ cmpK s o s' o' = 1 := by
  unfold ltK at h
  unfold cmpK
  rcases cmpN_three s s' with ⟨h1, e⟩ | ⟨h1, e⟩ | ⟨h1, e⟩
  · omega
  · rw [e]; simp
  · rw [e, if_pos rfl]
    rcases cmpN_three o o' with ⟨h2, e2⟩ | ⟨h2, e2⟩ | ⟨h2, e2⟩
    · omega
    · exact .inr e2
    · exact .inl e2
/-- one cell, as a block -/
theorem one_first {w w' : World} {x : Value} {t : TypeId} (hg : (w.alloc (.cells #[x] t)).grownBy w' none) : w'.heap[w.heap.size]? = some (.cells #[x] t (0, 0)) := by
  have h1 : (w.alloc (.cells #[x] t)).heap[w.heap.size]? = some (.cells #[x] t (0, 0)) := heap_alloc_new' _ _
  exact (hg.block _ (lt_of_block h1) (by simp)).trans h1
theorem two_frozen {w : World} {b : Nat} {x y : Value} {t : TypeId} (h : w.heap[b]? = some (.cells #[x, y] t (0, 0))) : w.frozen? ⟨b, 0, none⟩ = false ∧ w.frozen? ⟨b, 1, none⟩ = false := by
  exact ⟨by simp [World.frozen?, h], by simp [World.frozen?, h]⟩
theorem two_put {w : World} {b : Nat} {x y x' y' : Value} {t : TypeId} (h : w.heap[b]? = some (.cells #[x, y] t (0, 0))) : ((w.setCell ⟨b, 0, none⟩ x').setCell ⟨b, 1, none⟩ y').heap[b]? = some (.cells #[x', y'] t (0, 0)) := by
  rw [heap_setCell_same (heap_setCell_same h x') y']; rfl
theorem two_grown {w0 w : World} {b : Nat} {x' y' : Value} (h : w0.grownBy w none) (hb : w0.heap.size ≤ b) : w0.grownBy ((w.setCell ⟨b, 0, none⟩ x').setCell ⟨b, 1, none⟩ y') none :=
  grown_new (grown_trans (grown_any h _) (grown_trans (grown_set _ _ _ _) (grown_set _ _ _ _))) hb
section
variable {w : World} {T M : Nat} {R : Option Nat} {B D : Nat} {ws : List Nat} {l : List (Nat × Nat)}
set_option maxHeartbeats 1000000 in
theorem tkey_any (h : Thinks w T M R B D ws l) (off : Nat) (ho : off < 18446744073709551616) :
    Calls Tryz.prog 98 #[.agg #[.pointer (some ⟨T, 0, none⟩)], .int .u64 off] w fun e w' => e = .returned (.agg #[.int .u64 (tS (txSee ws l off) : Nat), .int .u64 off]) ∧ w.grownBy w' none := by
  have hload := fun (w1 : World) (hg : w.grownBy w1 none) => txload_any (h.later hg) off ho
  have hlt := txSee_lt h.seg.words h.ok off
  obtain ⟨x, hx⟩ : ∃ x, txSee ws l off = x := ⟨_, rfl⟩
  rw [hx] at hload hlt ⊢
  have hun := fun w1 => tunpack_any x hlt w1
  obtain ⟨s, hs⟩ : ∃ s, tS x = s := ⟨_, rfl⟩
  obtain ⟨u, hu⟩ : ∃ u, tU x = u := ⟨_, rfl⟩
  obtain ⟨o, ho⟩ : ∃ o, tO x = o := ⟨_, rfl⟩
  obtain ⟨m, hm⟩ : ∃ m, decide (mayW x) = m := ⟨_, rfl⟩
  rw [hs, hu, ho, hm] at hun
  rw [hs]
  have hg0 : w.grownBy ((w.alloc (.cells #[.pointer (some ⟨T, 0, none⟩)] 126)).alloc (.cells #[.int .u64 0, .int .u64 0] 131)) none := grown_trans (World.grownBy_alloc _ _ _) (World.grownBy_alloc _ _ _)
  have hb : ((w.alloc (.cells #[.pointer (some ⟨T, 0, none⟩)] 126)).alloc (.cells #[.int .u64 0, .int .u64 0] 131)).heap[w.heap.size + 1]? = some (.cells #[.int .u64 0, .int .u64 0] 131 (0, 0)) := by
    have := heap_alloc_new' (w.alloc (.cells #[.pointer (some ⟨T, 0, none⟩)] 126)) (.cells #[.int .u64 0, .int .u64 0] 131)
    rwa [World.size_alloc] at this
  have HB := Lib.hid hb
  clear hs hu ho hm hx hlt h hb
  go_enter Tryz.func98, Tryz.ntmps98
  go_wp2_with (first | (go_at_call 20; (with_reducible refine (hload _ hg0).mono ?_); rintro e w1 ⟨rfl, hg1⟩) | (go_at_call 55; (with_reducible refine (hun _).mono ?_); rintro e w2 ⟨rfl, hg2⟩; have HG := Lib.hid (grown_trans hg0 (grown_trans hg1 hg2)); have HB2 := Lib.hid (two_held (two_held (two_held HB.out hg1) hg2) (World.grownBy_alloc w2 (.cells #[.int .u64 s, .bool u, .int .i64 o] 64) none)); obtain ⟨c0, c1⟩ := two_cells HB2.out; obtain ⟨f0, f1⟩ := two_frozen HB2.out))
  have hb := two_put HB2.out (x' := .int .u64 s) (y' := .int .u64 off)
  obtain ⟨k0, k1⟩ := two_cells hb
  refine bodyPost_ret (v := .agg #[.int .u64 s, .int .u64 off]) (by simp [results, Tryz.results98, go_sem, k0, k1]) rfl ?_
  exact ⟨rfl, two_grown (grown_trans HG.out (World.grownBy_alloc _ _ _)) (by omega)⟩
set_option maxHeartbeats 1000000 in
theorem toward_core (h : Thinks w T M R B D ws l) (off s o : Nat) (ho : off < 18446744073709551616) (c : Int) (q : Nat) (hc : cmpK s o (tS (txSee ws l off)) off = c) (hq : (c = -1 ∧ (off + 8) % 18446744073709551616 = q) ∨ ((c = 0 ∨ c = 1) ∧ (off + 16) % 18446744073709551616 = q)) :
    Calls Tryz.prog 103 #[.agg #[.pointer (some ⟨T, 0, none⟩)], .int .u64 off, .agg #[.int .u64 s, .int .u64 o]] w fun e w' => e = .returned (.int .u64 q) ∧ w.grownBy w' none := by
  have hkey := fun (w1 : World) (hg : w.grownBy w1 none) => tkey_any (h.later hg) off ho
  obtain ⟨z, hz⟩ : ∃ z, tS (txSee ws l off) = z := ⟨_, rfl⟩
  rw [hz] at hc hkey
  have hcmp := fun w => tcompare_grown s o z off w
  rw [hc] at hcmp
  have hg0 : w.grownBy ((w.alloc (.cells #[.pointer (some ⟨T, 0, none⟩)] 126)).alloc (.cells #[.int .u64 s, .int .u64 o] 131)) none := grown_trans (World.grownBy_alloc _ _ _) (World.grownBy_alloc _ _ _)
  have ha : ((w.alloc (.cells #[.pointer (some ⟨T, 0, none⟩)] 126)).alloc (.cells #[.int .u64 s, .int .u64 o] 131)).heap[w.heap.size]? = some (.cells #[.pointer (some ⟨T, 0, none⟩)] 126 (0, 0)) := (Below.heap_alloc _ _ _ (by simp)).trans (heap_alloc_new' w _)
  have hb : ((w.alloc (.cells #[.pointer (some ⟨T, 0, none⟩)] 126)).alloc (.cells #[.int .u64 s, .int .u64 o] 131)).heap[w.heap.size + 1]? = some (.cells #[.int .u64 s, .int .u64 o] 131 (0, 0)) := by
    have := heap_alloc_new' (w.alloc (.cells #[.pointer (some ⟨T, 0, none⟩)] 126)) (.cells #[.int .u64 s, .int .u64 o] 131)
    rwa [World.size_alloc] at this
  obtain ⟨W, hW⟩ : ∃ W, (w.alloc (.cells #[.pointer (some ⟨T, 0, none⟩)] 126)).alloc (.cells #[.int .u64 s, .int .u64 o] 131) = W := ⟨_, rfl⟩
  rw [hW] at ha hb hg0
  have hcell : ∀ {wr : World}, W.grownBy wr none → wr.cell? ⟨w.heap.size, 0, none⟩ = some (.pointer (some ⟨T, 0, none⟩)) ∧ wr.cell? ⟨w.heap.size + 1, 0, none⟩ = some (.int .u64 s) ∧ wr.cell? ⟨w.heap.size + 1, 1, none⟩ = some (.int .u64 o) := fun {wr} hg => ⟨cell_of_one ((hg.block _ (lt_of_block ha) (by simp)).trans ha), two_cells (two_held hb hg)⟩
  have HG : W.grownBy W.drew none := grown_drew (grown_refl _ _)
  obtain ⟨d0, d1, d2⟩ := hcell HG
  clear h hc hz
  rcases hq with ⟨rfl, hq⟩ | ⟨rfl | rfl, hq⟩
  · have e1 : IntKind.u64.wrap ((off : Int) + 8) = (q : Nat) := by rw [IntKind.wrap_u64]; omega
    clear hq
    go_enter Tryz.func103, Tryz.ntmps103
    go_wp2
    go_region_held3 (fun wr => wr.cell? ⟨w.heap.size, 0, none⟩ = some (.pointer (some ⟨T, 0, none⟩)) ∧ wr.cell? ⟨w.heap.size + 1, 0, none⟩ = some (.int .u64 s) ∧ wr.cell? ⟨w.heap.size + 1, 1, none⟩ = some (.int .u64 o)) (exact hcell HG) (first | (go_at_call 98; (with_reducible refine (hkey _ (grown_trans hg0 HG)).mono ?_); rintro e w9 ⟨rfl, hg9⟩; replace HG := grown_trans HG hg9; obtain ⟨d0, d1, d2⟩ := hcell HG) | (go_at_call 101; (with_reducible refine (hcmp _).mono ?_); rintro e w9 ⟨rfl, hg9⟩; replace HG := grown_trans HG hg9; obtain ⟨d0, d1, d2⟩ := hcell HG))
    all_goals go_wp2
    go_ret
    exact ⟨rfl, grown_trans hg0 HG⟩
  · have e1 : IntKind.u64.wrap ((off : Int) + 16) = (q : Nat) := by rw [IntKind.wrap_u64]; omega
    clear hq
    go_enter Tryz.func103, Tryz.ntmps103
    go_wp2
    go_region_held3 (fun wr => wr.cell? ⟨w.heap.size, 0, none⟩ = some (.pointer (some ⟨T, 0, none⟩)) ∧ wr.cell? ⟨w.heap.size + 1, 0, none⟩ = some (.int .u64 s) ∧ wr.cell? ⟨w.heap.size + 1, 1, none⟩ = some (.int .u64 o)) (exact hcell HG) (first | (go_at_call 98; (with_reducible refine (hkey _ (grown_trans hg0 HG)).mono ?_); rintro e w9 ⟨rfl, hg9⟩; replace HG := grown_trans HG hg9; obtain ⟨d0, d1, d2⟩ := hcell HG) | (go_at_call 101; (with_reducible refine (hcmp _).mono ?_); rintro e w9 ⟨rfl, hg9⟩; replace HG := grown_trans HG hg9; obtain ⟨d0, d1, d2⟩ := hcell HG))
    all_goals go_wp2
    go_ret
    exact ⟨rfl, grown_trans hg0 HG⟩
  · have e1 : IntKind.u64.wrap ((off : Int) + 16) = (q : Nat) := by rw [IntKind.wrap_u64]; omega
    clear hq
    go_enter Tryz.func103, Tryz.ntmps103
    go_wp2
    go_region_held3 (fun wr => wr.cell? ⟨w.heap.size, 0, none⟩ = some (.pointer (some ⟨T, 0, none⟩)) ∧ wr.cell? ⟨w.heap.size + 1, 0, none⟩ = some (.int .u64 s) ∧ wr.cell? ⟨w.heap.size + 1, 1, none⟩ = some (.int .u64 o)) (exact hcell HG) (first | (go_at_call 98; (with_reducible refine (hkey _ (grown_trans hg0 HG)).mono ?_); rintro e w9 ⟨rfl, hg9⟩; replace HG := grown_trans HG hg9; obtain ⟨d0, d1, d2⟩ := hcell HG) | (go_at_call 101; (with_reducible refine (hcmp _).mono ?_); rintro e w9 ⟨rfl, hg9⟩; replace HG := grown_trans HG hg9; obtain ⟨d0, d1, d2⟩ := hcell HG))
    all_goals go_wp2
    go_ret
    exact ⟨rfl, grown_trans hg0 HG⟩
theorem toward_left (h : Thinks w T M R B D ws l) (off s o : Nat) (ho : off + 8 < 18446744073709551616) (hk : ltK s o (tS (txSee ws l off)) off) :
    Calls Tryz.prog 103 #[.agg #[.pointer (some ⟨T, 0, none⟩)], .int .u64 off, .agg #[.int .u64 s, .int .u64 o]] w fun e w' => e = .returned (.int .u64 (off + 8 : Nat)) ∧ w.grownBy w' none :=
  toward_core h off s o (by omega) (-1) (off + 8) (cmpK_lt hk) (.inl ⟨rfl, by omega⟩)
theorem toward_right (h : Thinks w T M R B D ws l) (off s o : Nat) (ho : off + 16 < 18446744073709551616) (hk : ¬ ltK s o (tS (txSee ws l off)) off) :
    Calls Tryz.prog 103 #[.agg #[.pointer (some ⟨T, 0, none⟩)], .int .u64 off, .agg #[.int .u64 s, .int .u64 o]] w fun e w' => e = .returned (.int .u64 (off + 16 : Nat)) ∧ w.grownBy w' none :=
  toward_core h off s o (by omega) _ (off + 16) rfl (.inr ⟨cmpK_ge hk, by omega⟩)
/-- What a link leads to is told otherwise. -/
def Led (ws : List Nat) (l : List (Nat × Nat)) (lk v : Nat) (l' : List (Nat × Nat)) : Prop := ∀ q, txSee ws l' q = if q = lk then v else txSee ws l q
theorem Led.at_ {lk v : Nat} {l' : List (Nat × Nat)} (h : Led ws l lk v l') : txSee ws l' lk = v := by rw [h, if_pos rfl]
theorem Led.off {lk v : Nat} {l' : List (Nat × Nat)} (h : Led ws l lk v l') : ∀ q, q ≠ lk → txSee ws l' q = txSee ws l q := fun q hq => by rw [h, if_neg hq]
set_option maxHeartbeats 1000000 in
theorem tlead_any (h : Thinks w T M R B D ws l) (lk v : Nat) (hs : stands ws lk) (hlk : lk < 18446744073709551616) (hv : v < 18446744073709551616) :
    Calls Tryz.prog 104 #[.agg #[.pointer (some ⟨T, 0, none⟩)], .int .u64 lk, .int .u64 v] w fun e w' => e = .returned (.tuple #[]) ∧ ∃ l', Thought w T M R B D ws l' w' ∧ Led ws l lk v l' := by
  have hload := fun (w1 : World) (hg : w.grownBy w1 none) => txload_any (h.later hg) lk hlk
  have hstore := fun (w1 : World) (hg : w.grownBy w1 none) => txstore_any (h.later hg) lk v hlk hv
  have hg0 : w.grownBy (w.alloc (.cells #[.pointer (some ⟨T, 0, none⟩)] 126)) none := World.grownBy_alloc _ _ _
  obtain ⟨x, hx⟩ : ∃ x, txSee ws l lk = x := ⟨_, rfl⟩
  rw [hx] at hload
  have HX := Lib.hid hx
  have HT := Lib.hid h
  have HS := Lib.hid hs
  clear hx h hs
  by_cases hxv : x = v
  · subst hxv
    go_enter Tryz.func104, Tryz.ntmps104
    go_wp2_with (first | (go_at_call 20; (with_reducible refine (hload _ hg0).mono ?_); rintro e w1 ⟨rfl, hg1⟩))
    go_end0
    refine ⟨rfl, l, Thought.same HT.out (grown_trans hg0 hg1), fun q => ?_⟩
    by_cases e : q = lk
    · rw [if_pos e, e, HX.out]
    · rw [if_neg e]
  · have hne : ¬ (x : Int) = (v : Int) := by omega
    go_enter Tryz.func104, Tryz.ntmps104
    go_wp2_with (first | (go_at_call 20; (with_reducible refine (hload _ hg0).mono ?_); rintro e w1 ⟨rfl, hg1⟩; have hb := Lib.hid (one_first hg1); have c0 := cell_of_one hb.out) | (go_at_call 17; (with_reducible refine (hstore _ (grown_trans hg0 hg1)).mono ?_); rintro e w2 ⟨rfl, ht⟩))
    go_end0
    exact ⟨rfl, _, Thought.first (grown_trans hg0 hg1) ht, fun q => see_stored HS.out q⟩
end
end Go.Proofs.YtoamlkljfmgomaaGreat

/-
  Package tree: the contract of find: the link below which a block stands, or would.
  Conditions: the Tx stands in memory; the words say a tree of blocks.
-/
namespace Go.Proofs.YtoamlkljfmgomaaGreat
open Go.RowKit
set_option linter.unusedVariables false
set_option linter.unusedSimpArgs false

/-- A segment of 4800 bytes in which free blocks stand, and the sizes that their first words tell. -/
structure Bed (ws : List Nat) (l : List (Nat × Nat)) (z : Nat → Nat) (F : List Nat) : Prop where
  free : FreeL F
  long : 8 * ws.length = 4800
  keys : ∀ x, x ∈ F → tS (txSee ws l x) = z x
/-- a link: the root, or a son of one of these -/
def LinkOf (F : List Nat) (lk : Nat) : Prop := lk = 32 ∨ ∃ x, x ∈ F ∧ (lk = x + 8 ∨ lk = x + 16)
section
variable {w : World} {T M : Nat} {R : Option Nat} {B D : Nat} {ws : List Nat} {l l' : List (Nat × Nat)} {z : Nat → Nat} {F S : List Nat} {off lk n k v : Nat}
theorem Bed.stand (h : Bed ws l z F) (hl : LinkOf F lk) : stands ws lk ∧ lk < 18446744073709551616 := by
  have := h.long
  unfold stands
  rcases hl with rfl | ⟨x, hx, e⟩
  · omega
  · have := h.free.on x hx
    omega
theorem Bed.first (h : Bed ws l z F) {x : Nat} (hx : x ∈ F) : stands ws x ∧ x + 16 < 18446744073709551616 := by
  have := h.long
  have := h.free.on x hx
  unfold stands
  omega
theorem Bed.kept (h : Bed ws l z F) (hk : Kept F (txSee ws l) (txSee ws l')) : Bed ws l' z F :=
  ⟨h.free, h.long, fun x hx => by rw [hk.first h.free hx]; exact h.keys x hx⟩
theorem Bed.led (h : Bed ws l z F) (hl : LinkOf F lk) (hk : Led ws l lk v l') : Bed ws l' z F := h.kept (Kept.put hl hk.off)
theorem FindAt.linkOf {f : Nat → Nat} (h : FindAt f z F S off lk n k) : LinkOf F lk := h.link
/-- the way goes down: ranks fall -/
theorem son_rank {f : Nat → Nat} {s : Nat} {L : List Nat} (ht : TreeOf f rkN s L) (hr : ∀ x, x ∈ L → rkN x < rkN n) (h0 : 0 < rkN n) : rkN s < rkN n := by
  by_cases e : s = 0
  · rw [e, rkN_zero]; exact h0
  · exact hr s (ht.mem e)
theorem FindAt.sons {f : Nat → Nat} (h : FindAt f z F S off lk n k) (h0 : n ≠ 0) (hr : 0 < rkN n) : rkN (f (n + 8)) < rkN n ∧ rkN (f (n + 16)) < rkN n := by
  obtain ⟨pre, m, post, P, rfl, rfl, hh, e, ht, hP, hPo, h1, h2⟩ := h
  obtain ⟨L, R, rfl, hL, hR, tL, tR⟩ := ht.some h0
  exact ⟨son_rank tL hL hr, son_rank tR hR hr⟩
/-- the way, however far it is still -/
def FindE (f z : Nat → Nat) (F S : List Nat) (off lk n : Nat) : Prop := ∃ k, FindAt f z F S off lk n k
/-- What find hands back. -/
structure Found (f z : Nat → Nat) (F S : List Nat) (off lk n : Nat) : Prop where
  way : FindE f z F S off lk n
  stop : n = 0 ∨ rkN n ≤ rkN off
  is : n = off ↔ off ∈ S
  in_ : off ∈ S → n ≠ 0
theorem txSee_lt2 (h : Thinks w T M R B D ws l) (q : Nat) : txSee ws l q < 18446744073709551616 := txSee_lt h.seg.words h.ok q
set_option maxHeartbeats 4000000 in
theorem tfind_any (h : Thinks w T M R B D ws l) (hB : Bed ws l z F) (hT : Tame z F S) (ht : TreeOf (txSee ws l) rkN (txSee ws l 32) S) (ho : off ∈ F) :
    Calls Tryz.prog 70 #[.agg #[.pointer (some ⟨T, 0, none⟩)], .int .u64 off] w fun e w' => w.grownBy w' none ∧ ∃ lk n, Found (txSee ws l) z F S off lk n ∧ txSee ws l lk = n ∧ LinkOf F lk ∧ e = .returned (.tuple #[.int .u64 lk, .bool (decide (off ∈ S))]) := by
  have ho64 := (hB.first ho).2
  have hkey := fun (w1 : World) (hg : w.grownBy w1 none) => tkey_any (h.later hg) off (by omega)
  rw [hB.keys off ho] at hkey
  obtain ⟨zo, hzo⟩ : ∃ q, z off = q := ⟨_, rfl⟩
  rw [hzo] at hkey
  have hload := fun (w1 : World) (hg : w.grownBy w1 none) (q : Nat) (hq : q < 18446744073709551616) => txload_any (h.later hg) q hq
  have hl32 : ∀ w1 : World, w.grownBy w1 none → Calls Tryz.prog 20 #[.pointer (some ⟨T, 0, none⟩), .int .u64 32] w1 fun e w' => e = .returned (.int .u64 (txSee ws l 32 : Nat)) ∧ w1.grownBy w' none := fun w1 hg => hload w1 hg 32 (by omega)
  have htl := fun (w1 : World) (hg : w.grownBy w1 none) (n : Nat) (hn : n ∈ F) (hk : blkLt z off n) => toward_left (h.later hg) n zo off (by have := (hB.first hn).2; omega) (by rw [hB.keys n hn, ← hzo]; exact hk)
  have htr := fun (w1 : World) (hg : w.grownBy w1 none) (n : Nat) (hn : n ∈ F) (hk : ¬ blkLt z off n) => toward_right (h.later hg) n zo off (hB.first hn).2 (by rw [hB.keys n hn, ← hzo]; exact hk)
  have hst := find_start (off := off) hT ht
  have hend := fun lk n (hx : FindE (txSee ws l) z F S off lk n) (hr : n = 0 ∨ rkN n ≤ rkN off) => (show Found (txSee ws l) z F S off lk n by
    obtain ⟨k, hx2⟩ := hx
    have := find_end hT ho hx2 hr
    exact ⟨⟨k, hx2⟩, hr, this.1, this.2⟩)
  obtain ⟨f, ef⟩ : ∃ f, txSee ws l = f := ⟨_, rfl⟩
  rw [ef] at hload hl32 hst hend ⊢
  have hnF : ∀ n, n ∈ S → n ∈ F := hT.sub
  have HT := Lib.hid hT
  have HB := Lib.hid hB
  have HS := Lib.hid hst
  have HN := Lib.hid hend
  have hmix := fun x w => mix_rk x w
  obtain ⟨r0, hr0⟩ : ∃ q, f 32 = q := ⟨_, rfl⟩
  rw [hr0] at hl32
  have HR0 := Lib.hid hr0
  obtain ⟨bS, hbS⟩ : ∃ q, decide (off ∈ S) = q := ⟨_, rfl⟩
  rw [hbS]
  have HBS := Lib.hid hbS
  clear hst hend hT hB ht h hzo ef hr0 hbS
  go_enter Tryz.func70, Tryz.ntmps70
  go_wp2_with (first | (go_at_call 98; (with_reducible refine (hkey _ (World.grownBy_alloc _ _ _)).mono ?_); rintro e w1 ⟨rfl, hg1⟩; have HB1 := Lib.hid (two_held (heap_alloc_new' w1 (.cells #[.int .u64 zo, .int .u64 off] 131)) (grown_refl _ _)); have HA1 := Lib.hid (one_first (grown_trans hg1 (World.grownBy_alloc w1 (.cells #[.int .u64 zo, .int .u64 off] 131) none))); have HG1 := Lib.hid (grown_trans (World.grownBy_alloc w (.cells #[.pointer (some ⟨T, 0, none⟩)] 126) none) (grown_trans hg1 (World.grownBy_alloc w1 (.cells #[.int .u64 zo, .int .u64 off] 131) none))); obtain ⟨k0, k1⟩ := two_cells HB1.out; have k2 := cell_of_one HA1.out) | (go_at_call 20; (with_reducible refine (hl32 _ HG1.out).mono ?_); rintro e w2 ⟨rfl, hg2⟩))
  go_loopw [4, 7] (fun i j wr => ∃ lk n, i = .int .u64 (lk : Nat) ∧ j = .int .u64 (n : Nat) ∧ FindE f z F S off lk n ∧ w2.grownBy wr none) (fun i j _ => rkN (intOf j).toNat)
  case atStart => exact ⟨32, r0, rfl, rfl, ⟨_, HR0.out ▸ HS.out⟩, grown_refl _ _⟩
  case round =>
    obtain ⟨lk, n, rfl, rfl, hF, hgr⟩ := hrel
    have G := grown_trans HG1.out (grown_trans hg2 hgr)
    have c2 := cell_of_one (((grown_trans hg2 hgr).block _ (lt_of_block HA1.out) (by simp)).trans HA1.out)
    obtain ⟨k0, k1⟩ := two_cells (two_held HB1.out (grown_trans hg2 hgr))
    have HF := Lib.hid hF
    have hn64 : n ≠ 0 → n ∈ F := fun h0 => by obtain ⟨k, hF⟩ := HF.out; exact hnF n (hF.mem h0)
    have HNF := Lib.hid hn64
    clear hF hn64
    by_cases h0 : n = 0
    · subst h0
      have hE := HN.out lk 0 HF.out (.inl rfl)
      have hd : bS = false := by rw [← HBS.out]; exact decide_eq_false fun hm => hE.in_ hm rfl
      have HE := Lib.hid hE
      have HD := Lib.hid hd
      clear hE hd
      go_wp2
      refine bodyPost_ret (v := .tuple #[.int .u64 lk, .bool false]) (by simp [results, Tryz.results70, go_sem]) rfl ?_
      refine ⟨G, lk, 0, HE.out, ?_, ?_, by rw [HD.out]⟩
      · obtain ⟨k, hk⟩ := HE.out.way; exact hk.at_
      · obtain ⟨k, hk⟩ := HE.out.way; exact hk.linkOf
    · have h0' : ¬ (n : Int) = 0 := by omega
      have hnF := HNF.out h0
      by_cases hr : rkN off < rkN n
      · have hr' : ((rkN off : Nat) : Int) < (rkN n : Nat) := by omega
        by_cases hlt : blkLt z off n
        · have htl1 := fun w1 (hg : w.grownBy w1 none) => htl w1 hg n hnF hlt
          have hld := fun w1 (hg : w.grownBy w1 none) => hload w1 hg (n + 8) (by have := (HB.out.first hnF).2; omega)
          obtain ⟨y, hy⟩ : ∃ y, f (n + 8) = y := ⟨_, rfl⟩
          have hnext : FindE f z F S off (n + 8) y ∧ rkN y < rkN n := by
            obtain ⟨k, hF⟩ := HF.out
            obtain ⟨j, _, hj⟩ := find_left HT.out hF h0 hr hlt
            exact ⟨⟨j, hy ▸ hj⟩, hy ▸ (hF.sons h0 (by omega)).1⟩
          obtain ⟨n8, e8⟩ : ∃ q, n + 8 = q := ⟨_, rfl⟩
          rw [hy] at hld
          rw [e8] at hld htl1 hnext
          obtain ⟨hn1, hn2⟩ := hnext
          have HN1 := Lib.hid hn1
          have HN2 := Lib.hid hn2
          clear hy hr hlt hn1 hn2 h0 e8 htl htr hload hkey hl32
          go_wp2_with (first | (go_at_call 102; (with_reducible refine (hmix _ _).mono ?_); rintro e w3 ⟨rfl, rfl⟩) | (go_at_call 103; (with_reducible refine (htl1 _ G).mono ?_); rintro e w4 ⟨rfl, hg4⟩; have c3 := cell_of_one (((grown_trans (grown_trans hg2 hgr) hg4).block _ (lt_of_block HA1.out) (by simp)).trans HA1.out)) | (go_at_call 20; (with_reducible refine (hld _ (grown_trans G hg4)).mono ?_); rintro e w5 ⟨rfl, hg5⟩))
          go_roundw
          case rel => exact ⟨n8, y, by go_num, by go_num, HN1.out, grown_trans hgr (grown_trans hg4 hg5)⟩
          case measure => simpa [intOf] using HN2.out
        · have htl1 := fun w1 (hg : w.grownBy w1 none) => htr w1 hg n hnF hlt
          have hld := fun w1 (hg : w.grownBy w1 none) => hload w1 hg (n + 16) (HB.out.first hnF).2
          obtain ⟨y, hy⟩ : ∃ y, f (n + 16) = y := ⟨_, rfl⟩
          have hnext : FindE f z F S off (n + 16) y ∧ rkN y < rkN n := by
            obtain ⟨k, hF⟩ := HF.out
            obtain ⟨j, _, hj⟩ := find_right HT.out hF h0 hr (blkLt.total hlt (fun e => by rw [e] at hr; omega))
            exact ⟨⟨j, hy ▸ hj⟩, hy ▸ (hF.sons h0 (by omega)).2⟩
          obtain ⟨n8, e8⟩ : ∃ q, n + 16 = q := ⟨_, rfl⟩
          rw [hy] at hld
          rw [e8] at hld htl1 hnext
          obtain ⟨hn1, hn2⟩ := hnext
          have HN1 := Lib.hid hn1
          have HN2 := Lib.hid hn2
          clear hy hr hlt hn1 hn2 h0 e8 htl htr hload hkey hl32
          go_wp2_with (first | (go_at_call 102; (with_reducible refine (hmix _ _).mono ?_); rintro e w3 ⟨rfl, rfl⟩) | (go_at_call 103; (with_reducible refine (htl1 _ G).mono ?_); rintro e w4 ⟨rfl, hg4⟩; have c3 := cell_of_one (((grown_trans (grown_trans hg2 hgr) hg4).block _ (lt_of_block HA1.out) (by simp)).trans HA1.out)) | (go_at_call 20; (with_reducible refine (hld _ (grown_trans G hg4)).mono ?_); rintro e w5 ⟨rfl, hg5⟩))
          go_roundw
          case rel => exact ⟨n8, y, by go_num, by go_num, HN1.out, grown_trans hgr (grown_trans hg4 hg5)⟩
          case measure => simpa [intOf] using HN2.out
      · have hr' : ¬ ((rkN off : Nat) : Int) < (rkN n : Nat) := by omega
        have hE := HN.out lk n HF.out (.inr (by omega))
        have hd : ((n : Int) == (off : Int)) = bS := by
          rw [← HBS.out]
          by_cases e : n = off
          · rw [decide_eq_true (hE.is.1 e), e]; simp
          · rw [decide_eq_false (fun hm => e (hE.is.2 hm))]
            simp only [beq_eq_false_iff_ne, ne_eq]
            omega
        have HE := Lib.hid hE
        clear hE hr h0 htl htr hload hkey hl32
        go_wp2_with (first | (go_at_call 102; (with_reducible refine (hmix _ _).mono ?_); rintro e w3 ⟨rfl, rfl⟩))
        refine bodyPost_ret (v := .tuple #[.int .u64 lk, .bool bS]) (by simp [results, Tryz.results70, go_sem, hd]; intro _; omega) rfl ?_
        refine ⟨G, lk, n, HE.out, ?_, ?_, rfl⟩
        · obtain ⟨k, hk⟩ := HE.out.way; exact hk.at_
        · obtain ⟨k, hk⟩ := HE.out.way; exact hk.linkOf
end
end Go.Proofs.YtoamlkljfmgomaaGreat

/-
  How a block goes out of a tree, link by link, as plain mathematics.
  No condition.
-/
namespace Go.Proofs.YtoamlkljfmgomaaGreat
open Go.RowKit
set_option linter.unusedVariables false
set_option linter.unusedSimpArgs false

section
variable {f g g' z : Nat → Nat} {F S U : List Nat} {off lk n k left right : Nat}
/-- Two trees are to be joined below a link; U: what there is all together. -/
def JoinAt (g z : Nat → Nat) (F U : List Nat) (lk left right k : Nat) : Prop :=
  ∃ pre la lb post P, la.length + lb.length = k ∧ U = pre ++ (la ++ lb) ++ post ∧ Hole g rkN 32 (fun x => x ∈ F) lk pre post P ∧ TreeOf g rkN left la ∧ TreeOf g rkN right lb ∧ ∀ x, x ∈ la ++ lb → P x
theorem JoinAt.link (h : JoinAt g z F U lk left right k) : lk = 32 ∨ ∃ x, x ∈ F ∧ (lk = x + 8 ∨ lk = x + 16) := by
  obtain ⟨pre, la, lb, post, P, _, _, hh, _⟩ := h
  rcases hh.link with e | ⟨x, hx, e⟩
  · exact .inl e
  · exact .inr ⟨x, hh.sub x hx, e⟩
theorem JoinAt.mem (h : JoinAt g z F U lk left right k) : (left ≠ 0 → left ∈ U) ∧ (right ≠ 0 → right ∈ U) ∧ (left ≠ 0 → U.Nodup → left ≠ right) := by
  obtain ⟨pre, la, lb, post, P, _, rfl, hh, tl, tr, _⟩ := h
  refine ⟨fun h0 => ?_, fun h0 => ?_, fun h0 hn e => ?_⟩
  · have := tl.mem h0; simp [this]
  · have := tr.mem h0; simp [this]
  · have h1 := tl.mem h0
    rw [e] at h1 h0
    have h2 := tr.mem h0
    have h3 := (List.nodup_append.1 (List.nodup_append.1 hn).1).2.1
    exact (List.nodup_append.1 h3).2.2 _ h1 _ h2 rfl
theorem join_start (hT : Tame z F S) (h : FindAt f z F S off lk off k) (hS : off ∈ F) : ∃ j, JoinAt f z F (S.filter fun a => decide (a ≠ off)) lk (f (off + 8)) (f (off + 16)) j := by
  have h0 : off ≠ 0 := by have := hT.free.on off hS; omega
  obtain ⟨pre, m, post, P, rfl, rfl, hh, e, ht, hP, hPo, h1, h2⟩ := h
  obtain ⟨L, R, rfl, hL, hR, tL, tR⟩ := ht.some h0
  refine ⟨_, pre, L, R, post, P, rfl, ?_, hh, tL, tR, fun x hx => hP x ?_⟩
  · have h3 := hT.rise
    rw [show pre ++ (L ++ off :: R) ++ post = (pre ++ L) ++ off :: (R ++ post) by simp] at h3 ⊢
    rw [filter_top h3]
    simp
  · rcases List.mem_append.1 hx with hx | hx
    · simp [hx]
    · simp [hx]
/-- What there is stands where blocks may. -/
structure Lot (F U : List Nat) : Prop where
  free : FreeL F
  nodup : U.Nodup
  sub : ∀ x, x ∈ U → x ∈ F
theorem rank_le {t : Nat} {L : List Nat} (ht : TreeOf g rkN t L) {x : Nat} (hx : x ∈ L) : rkN x ≤ rkN t := by
  by_cases e : t = 0
  · rw [e] at ht; rw [ht.zero] at hx; simp at hx
  · obtain ⟨A, B, rfl, hA, hB, _, _⟩ := ht.some e
    simp only [List.mem_append, List.mem_cons] at hx
    rcases hx with hx | rfl | hx
    · have := hA x hx; omega
    · omega
    · have := hB x hx; omega
theorem join_left (hU : Lot F U) (h : JoinAt g z F U lk left right k) (h0 : left ≠ 0) (hr : rkN right < rkN left) (hg : ∀ q, q ≠ lk → g' q = g q) (hg2 : g' lk = left) : (∃ j, JoinAt g' z F U (left + 16) (g' (left + 16)) right j) ∧ (g' (left + 16) = 0 ∨ rkN (g' (left + 16)) < rkN left) := by
  obtain ⟨pre, la, lb, post, P, rfl, rfl, hh, tl, tr, hP⟩ := h
  obtain ⟨L, R, rfl, hL, hR, tL, tR⟩ := tl.some h0
  have hout : ∀ x, x ∈ (L ++ left :: R) ++ lb → x ∉ pre ++ post := fun x hx => part_out hU.nodup hx
  have hA : ∀ x, x ∈ (L ++ left :: R) ++ lb → x ∈ F := fun x hx => hU.sub x (mem_mid hx)
  have hnd := (List.nodup_append.1 (List.nodup_append.1 hU.nodup).1).2.1
  have hnL : left ∉ L := fun hm => by
    have := (List.nodup_append.1 hnd).1
    exact (List.nodup_append.1 this).2.2 left hm left (by simp) rfl
  have inA : ∀ x, x ∈ L ++ left :: R → x ∈ (L ++ left :: R) ++ lb := fun x hx => List.mem_append.2 (.inl hx)
  have inB : ∀ x, x ∈ lb → x ∈ (L ++ left :: R) ++ lb := fun x hx => List.mem_append.2 (.inr hx)
  have hcons : ∀ x, x ∈ left :: L → x ∈ L ++ left :: R := fun x hx => by
    rcases List.mem_cons.1 hx with rfl | hx
    · simp
    · simp [hx]
  have tl' : TreeOf g' rkN left (L ++ left :: R) := hh.keeps hg (fun x hx => hA x (inA x hx)) (fun x hx => hout x (inA x hx)) tl
  have tr' : TreeOf g' rkN right lb := hh.keeps hg (fun x hx => hA x (inB x hx)) (fun x hx => hout x (inB x hx)) tr
  obtain ⟨L', R', e, _, _, tL', tR'⟩ := tl'.some h0
  obtain ⟨rfl, -, rfl⟩ := root_split e hL hR (by assumption) (by assumption)
  refine ⟨⟨_, pre ++ (L ++ [left]), R, lb, post, _, rfl, by simp, (hh.put hg).right hg2 h0 (fun x hx => hA x (inA x (hcons x hx))) (hout left (inA left (by simp))) hnL (fun x hx => hP x (inA x (hcons x hx))) hL (fun x hx => hout x (inA x (by simp [hx]))) tL', tR', tr', fun x hx => ?_⟩, rank_or tR' hR⟩
  rcases List.mem_append.1 hx with hx | hx
  · exact ⟨hP x (inA x (by simp [hx])), hR x hx⟩
  · exact ⟨hP x (inB x hx), by have := rank_le tr hx; omega⟩
theorem join_right (hU : Lot F U) (h : JoinAt g z F U lk left right k) (h0 : right ≠ 0) (hr : rkN left < rkN right) (hg : ∀ q, q ≠ lk → g' q = g q) (hg2 : g' lk = right) : (∃ j, JoinAt g' z F U (right + 8) left (g' (right + 8)) j) ∧ (g' (right + 8) = 0 ∨ rkN (g' (right + 8)) < rkN right) := by
  obtain ⟨pre, la, lb, post, P, rfl, rfl, hh, tl, tr, hP⟩ := h
  obtain ⟨L, R, rfl, hL, hR, tL, tR⟩ := tr.some h0
  have hout : ∀ x, x ∈ la ++ (L ++ right :: R) → x ∉ pre ++ post := fun x hx => part_out hU.nodup hx
  have hA : ∀ x, x ∈ la ++ (L ++ right :: R) → x ∈ F := fun x hx => hU.sub x (mem_mid hx)
  have hnd := (List.nodup_append.1 (List.nodup_append.1 hU.nodup).1).2.1
  have hnR : right ∉ R := by
    have h1 := (List.nodup_append.1 hnd).2.1
    exact (List.nodup_cons.1 (List.nodup_append.1 h1).2.1).1
  have inA : ∀ x, x ∈ L ++ right :: R → x ∈ la ++ (L ++ right :: R) := fun x hx => List.mem_append.2 (.inr hx)
  have inB : ∀ x, x ∈ la → x ∈ la ++ (L ++ right :: R) := fun x hx => List.mem_append.2 (.inl hx)
  have hcons : ∀ x, x ∈ right :: R → x ∈ L ++ right :: R := fun x hx => List.mem_append.2 (.inr hx)
  have tr' : TreeOf g' rkN right (L ++ right :: R) := hh.keeps hg (fun x hx => hA x (inA x hx)) (fun x hx => hout x (inA x hx)) tr
  have tl' : TreeOf g' rkN left la := hh.keeps hg (fun x hx => hA x (inB x hx)) (fun x hx => hout x (inB x hx)) tl
  obtain ⟨L', R', e, _, _, tL', tR'⟩ := tr'.some h0
  obtain ⟨rfl, -, rfl⟩ := root_split e hL hR (by assumption) (by assumption)
  refine ⟨⟨_, pre, la, L, right :: (R ++ post), _, rfl, by simp, (hh.put hg).left hg2 h0 (fun x hx => hA x (inA x (hcons x hx))) (hout right (inA right (by simp))) hnR (fun x hx => hP x (inA x (hcons x hx))) hR (fun x hx => hout x (inA x (by simp [hx]))) tR', tl', tL', fun x hx => ?_⟩, rank_or tL' hL⟩
  rcases List.mem_append.1 hx with hx | hx
  · exact ⟨hP x (inB x hx), by have := rank_le tl hx; omega⟩
  · exact ⟨hP x (inA x (by simp [hx])), hL x hx⟩
theorem join_end (hU : Lot F U) (h : JoinAt g z F U lk left right k) (h0 : left = 0 ∨ right = 0) (hg : ∀ q, q ≠ lk → g' q = g q) (hg2 : g' lk = max left right) : TreeOf g' rkN (g' 32) U := by
  obtain ⟨pre, la, lb, post, P, rfl, rfl, hh, tl, tr, hP⟩ := h
  have hout : ∀ x, x ∈ la ++ lb → x ∉ pre ++ post := fun x hx => part_out hU.nodup hx
  have hA : ∀ x, x ∈ la ++ lb → x ∈ F := fun x hx => hU.sub x (mem_mid hx)
  refine (hh.put hg).fill g' _ (fun x _ => ⟨fun _ => rfl, fun _ => rfl⟩) (fun _ => rfl) hP ?_
  rw [hg2]
  rcases h0 with rfl | rfl
  · rw [tl.zero, Nat.zero_max, List.nil_append]
    exact hh.keeps hg (fun x hx => hA x (by simp [hx])) (fun x hx => hout x (by simp [hx])) tr
  · rw [tr.zero, Nat.max_zero, List.append_nil]
    exact hh.keeps hg (fun x hx => hA x (by simp [hx])) (fun x hx => hout x (by simp [hx])) tl
/-- Who has come in: what is below the link, split, and the block above it. -/
theorem insert_end {f1 : Nat → Nat} (hT : Tame z F S) (ho : off ∈ F) (hn : off ∉ S) (h : FindAt f z F S off lk n k) (hr : n = 0 ∨ rkN n ≤ rkN off)
    (h1 : ∀ q, q ≠ lk → f1 q = f q) (h2 : f1 lk = off) : ∃ l, TreeOf f1 rkN n l ∧ Under z F l off ∧
    ∀ (g : Nat → Nat) (a b : List Nat), l = a ++ b → (∀ x, x ∈ a → blkLt z x off) → (∀ x, x ∈ b → blkLt z off x) → TreeOf g rkN (g (off + 8)) a → TreeOf g rkN (g (off + 16)) b → (∀ q, q ≠ off + 8 → q ≠ off + 16 → (∀ x, x ∈ l → q ≠ x + 8 ∧ q ≠ x + 16) → g q = f1 q) →
      TreeOf g rkN (g 32) (insK z off S) ∧ Kept F f g := by
  have ho0 : off ≠ 0 := by have := hT.free.on off ho; omega
  have hlink := h.link
  obtain ⟨pre, m, post, P, rfl, rfl, hh, e, ht, hP, hPo, hp1, hp2⟩ := h
  have hout : ∀ x, x ∈ m → x ∉ pre ++ post := fun x hx => part_out hT.rise.nodup hx
  have hA : ∀ x, x ∈ m → x ∈ F := fun x hx => hT.sub x (mem_mid hx)
  have hoff : off ∉ pre ++ post := fun hm => hn (by
    rcases List.mem_append.1 hm with hm | hm
    · simp [hm]
    · simp [hm])
  have hrm : Rising z m := by
    have h3 := hT.rise
    unfold Rising at h3 ⊢
    exact (List.pairwise_append.1 (List.pairwise_append.1 h3).1).2.1
  have hom : off ∉ m := fun hm => hn (by simp [hm])
  have hrk : ∀ x, x ∈ m → rkN x < rkN off := fun x hx => by
    have h3 := rank_le ht hx
    have h4 := hT.rk (hA x hx) ho (fun e => hom (e ▸ hx))
    rcases hr with hr | hr
    · rw [hr] at ht; rw [ht.zero] at hx; simp at hx
    · omega
  refine ⟨m, hh.keeps h1 hA hout ht, ⟨hT.free, ho, hrm, fun x hx => ⟨hA x hx, fun e => hom (e ▸ hx)⟩⟩, fun g a b hab ha hb ta tb hg => ?_⟩
  subst hab
  have hlk1 : lk ≠ off + 8 ∧ lk ≠ off + 16 := by have := hh.off ho hoff; omega
  have hlk2 : ∀ x, x ∈ a ++ b → lk ≠ x + 8 ∧ lk ≠ x + 16 := fun x hx => by have := hh.off (hA x hx) (hout x hx); omega
  have hglk : g lk = off := by rw [hg lk hlk1.1 hlk1.2 hlk2, h2]
  have hpart := hT.free.free_apart
  have hsame : ∀ x, x ∈ pre ++ post → (x + 8 ≠ lk → g (x + 8) = f (x + 8)) ∧ (x + 16 ≠ lk → g (x + 16) = f (x + 16)) := fun x hx => by
    have hx1 := hpart.son (hh.sub x hx) ho (fun e => hoff (e ▸ hx))
    have hx2 : ∀ y, y ∈ a ++ b → (x + 8 ≠ y + 8 ∧ x + 8 ≠ y + 16) ∧ x + 16 ≠ y + 8 ∧ x + 16 ≠ y + 16 := fun y hy => by
      have := hpart.son (hh.sub x hx) (hA y hy) (fun e => hout y hy (e ▸ hx))
      exact ⟨⟨this.1, this.2.1⟩, this.2.2⟩
    exact ⟨fun h3 => (hg _ hx1.1 hx1.2.1 fun y hy => (hx2 y hy).1).trans (h1 _ h3), fun h3 => (hg _ hx1.2.2.1 hx1.2.2.2 fun y hy => (hx2 y hy).2).trans (h1 _ h3)⟩
  have h32 : ∀ x, x ∈ F → 32 ≠ x + 8 ∧ 32 ≠ x + 16 := fun x hx => by have := hT.free.on x hx; omega
  have hroot : 32 ≠ lk → g 32 = f 32 := fun h3 => (hg 32 (h32 off ho).1 (h32 off ho).2 fun x hx => h32 x (hA x hx)).trans (h1 32 h3)
  have htop : TreeOf g rkN (g lk) (a ++ off :: b) := by
    rw [hglk]
    exact TreeOf.node ho0 (fun x hx => hrk x (by simp [hx])) (fun x hx => hrk x (by simp [hx])) ta tb
  have hfill := hh.fill g (a ++ off :: b) hsame hroot (fun x hx => by
    simp only [List.mem_append, List.mem_cons] at hx
    rcases hx with hx | rfl | hx
    · exact hP x (by simp [hx])
    · exact hPo
    · exact hP x (by simp [hx])) htop
  constructor
  · have hins : insK z off (pre ++ (a ++ b) ++ post) = pre ++ (a ++ off :: b) ++ post := by
      rw [show pre ++ (a ++ b) ++ post = (pre ++ a) ++ (b ++ post) by simp]
      rw [insK_right fun y hy => by
        rcases List.mem_append.1 hy with hy | hy
        · exact (hp1 y hy).anti
        · exact (ha y hy).anti]
      have : insK z off (b ++ post) = off :: (b ++ post) := by
        cases hbp : b ++ post with
        | nil => rfl
        | cons c r =>
          have hc : blkLt z off c := by
            have : c ∈ b ++ post := by rw [hbp]; simp
            rcases List.mem_append.1 this with hy | hy
            · exact hb c hy
            · exact hp2 c hy
          rw [insK_cons, if_pos hc]
      rw [this]
      simp
    rw [hins]
    exact hfill
  · intro q q1 q2
    rw [hg q (q2 off ho).1 (q2 off ho).2 (fun x hx => q2 x (hA x hx))]
    refine h1 q fun e => ?_
    rcases hlink with e2 | ⟨x, hx, e2⟩
    · exact q1 (e.trans e2)
    · have := q2 x hx
      omega
end
end Go.Proofs.YtoamlkljfmgomaaGreat

/-
  Package tree: the contracts of split and join.
  Conditions: the Tx stands in memory; the words say trees of blocks.
-/
namespace Go.Proofs.YtoamlkljfmgomaaGreat
open Go.RowKit
set_option linter.unusedVariables false
set_option linter.unusedSimpArgs false

/-- split, however far it is still -/
def SplitE (f g z : Nat → Nat) (F l : List Nat) (off left right n : Nat) : Prop := ∃ k, SplitAt f g z F l off left right n k
/-- what split leaves -/
def SplitD (f g z : Nat → Nat) (l : List Nat) (off : Nat) : Prop :=
  ∃ a b, l = a ++ b ∧ (∀ x, x ∈ a → blkLt z x off) ∧ (∀ x, x ∈ b → blkLt z off x) ∧ TreeOf g rkN (g (off + 8)) a ∧ TreeOf g rkN (g (off + 16)) b ∧ ∀ q, q ≠ off + 8 → q ≠ off + 16 → (∀ x, x ∈ l → q ≠ x + 8 ∧ q ≠ x + 16) → g q = f q
section
variable {w : World} {T M : Nat} {R : Option Nat} {B D : Nat} {ws : List Nat} {l l' : List (Nat × Nat)} {z : Nat → Nat} {F S lst : List Nat} {off lk n k v left right : Nat}
theorem SplitAt.kept {f g : Nat → Nat} (hU : Under z F lst off) (h : SplitAt f g z F lst off left right n k) : Kept F f g := by
  obtain ⟨a, m, b, PL, PR, _, _, _, _, _, _, _, _, hf⟩ := h
  exact fun q h1 h2 => hf q (h2 off hU.mem).1 (h2 off hU.mem).2 fun x hx => h2 x (hU.sub x hx).1
theorem SplitAt.linkOf {f g : Nat → Nat} (hU : Under z F lst off) (h : SplitAt f g z F lst off left right n k) : LinkOf F left ∧ LinkOf F right := by
  obtain ⟨h1, h2⟩ := h.links
  constructor
  · rcases h1 with e | ⟨x, hx, e⟩
    · exact .inr ⟨off, hU.mem, .inl e⟩
    · exact .inr ⟨x, (hU.sub x hx).1, e⟩
  · rcases h2 with e | ⟨x, hx, e⟩
    · exact .inr ⟨off, hU.mem, .inr e⟩
    · exact .inr ⟨x, (hU.sub x hx).1, e⟩
theorem rank_pos (h0 : n ≠ 0) (hn : n < 18446744073709551616) : 0 < rkN n := by
  rcases Nat.eq_zero_or_pos (rkN n) with e | e
  · exact absurd (rkN_inj hn (by omega) (e.trans rkN_zero.symm)) h0
  · exact e
theorem rank_son {y : Nat} (h : y = 0 ∨ rkN y < rkN n) (h0 : 0 < rkN n) : rkN y < rkN n := by
  rcases h with rfl | h
  · rw [rkN_zero]; exact h0
  · exact h
set_option maxHeartbeats 4000000 in
theorem tsplit_any (h : Thinks w T M R B D ws l) (hB : Bed ws l z F) (hU : Under z F lst off) (below : Nat) (ht : TreeOf (txSee ws l) rkN below lst) :
    Calls Tryz.prog 105 #[.agg #[.pointer (some ⟨T, 0, none⟩)], .int .u64 below, .agg #[.int .u64 (z off), .int .u64 off]] w fun e w' => e = .returned (.tuple #[]) ∧ ∃ l', Thought w T M R B D ws l' w' ∧ SplitD (txSee ws l) (txSee ws l') z lst off := by
  have ho64 := (hB.first hU.mem).2
  have hst := split_start hU ht
  have hsub := hU.sub
  obtain ⟨zo, hzo⟩ : ∃ q, z off = q := ⟨_, rfl⟩
  rw [hzo]
  have HZ := Lib.hid hzo
  obtain ⟨f, ef⟩ : ∃ f, txSee ws l = f := ⟨_, rfl⟩
  rw [ef] at hst ⊢
  have e8 : IntKind.u64.wrap ((off : Int) + 8) = (off + 8 : Nat) := by rw [IntKind.wrap_u64]; omega
  have e16 : IntKind.u64.wrap ((off : Int) + 16) = (off + 16 : Nat) := by rw [IntKind.wrap_u64]; omega
  obtain ⟨o8, eo8⟩ : ∃ q, off + 8 = q := ⟨_, rfl⟩
  obtain ⟨o16, eo16⟩ : ∃ q, off + 16 = q := ⟨_, rfl⟩
  rw [eo8] at e8
  rw [eo16] at e16
  have hg0 : w.grownBy ((w.alloc (.cells #[.pointer (some ⟨T, 0, none⟩)] 126)).alloc (.cells #[.int .u64 zo, .int .u64 off] 131)) none := grown_trans (World.grownBy_alloc _ _ _) (World.grownBy_alloc _ _ _)
  have ha : ((w.alloc (.cells #[.pointer (some ⟨T, 0, none⟩)] 126)).alloc (.cells #[.int .u64 zo, .int .u64 off] 131)).heap[w.heap.size]? = some (.cells #[.pointer (some ⟨T, 0, none⟩)] 126 (0, 0)) := (Below.heap_alloc _ _ _ (by simp)).trans (heap_alloc_new' w _)
  have hb : ((w.alloc (.cells #[.pointer (some ⟨T, 0, none⟩)] 126)).alloc (.cells #[.int .u64 zo, .int .u64 off] 131)).heap[w.heap.size + 1]? = some (.cells #[.int .u64 zo, .int .u64 off] 131 (0, 0)) := by
    have := heap_alloc_new' (w.alloc (.cells #[.pointer (some ⟨T, 0, none⟩)] 126)) (.cells #[.int .u64 zo, .int .u64 off] 131)
    rwa [World.size_alloc] at this
  obtain ⟨W, hW⟩ : ∃ W, (w.alloc (.cells #[.pointer (some ⟨T, 0, none⟩)] 126)).alloc (.cells #[.int .u64 zo, .int .u64 off] 131) = W := ⟨_, rfl⟩
  rw [hW] at ha hb hg0
  have hTW := h.later hg0
  obtain ⟨b0, b1⟩ := two_cells hb
  have hbox : ∀ {wr : World} {l2 : List (Nat × Nat)}, Thought W T M R B D ws l2 wr → wr.heap[w.heap.size]? = some (.cells #[.pointer (some ⟨T, 0, none⟩)] 126 (0, 0)) ∧ wr.heap[w.heap.size + 1]? = some (.cells #[.int .u64 zo, .int .u64 off] 131 (0, 0)) := fun {wr l2} ⟨R', k1, k2, k3⟩ =>
    ⟨k2.heap ha (hTW.far ha (by decide) (by decide)), k2.heap hb (hTW.far hb (by decide) (by decide))⟩
  have H8 := Lib.hid eo8
  have H16 := Lib.hid eo16
  have HB := Lib.hid hB
  have HU := Lib.hid hU
  have HS := Lib.hid (show SplitE f f z F lst off o8 o16 below from ⟨_, by rw [← eo8, ← eo16]; exact hst⟩)
  have HTW := Lib.hid (Thought.same hTW (grown_drew (grown_refl W none)))
  have HG0 := Lib.hid hg0
  have HEF := Lib.hid ef
  clear hst eo8 eo16 hB hU ha hb hTW ht h hzo hg0 ef
  go_enter Tryz.func105, Tryz.ntmps105
  go_wp2
  go_region
  all_goals go_wp2
  go_loopw [6, 7, 8] (fun p q j wr => ∃ left right n l2, p = .int .u64 (left : Nat) ∧ q = .int .u64 (right : Nat) ∧ j = .int .u64 (n : Nat) ∧ SplitE f (txSee ws l2) z F lst off left right n ∧ Thought W T M R B D ws l2 wr) (fun p q j _ => rkN (intOf j).toNat)
  case atStart => exact ⟨o8, o16, below, l, rfl, rfl, rfl, HEF.out ▸ HS.out, HTW.out⟩
  case round =>
    obtain ⟨left, right, n, l2, rfl, rfl, rfl, hS, hTh⟩ := hrel
    obtain ⟨X1, X2⟩ := hbox hTh
    obtain ⟨R2, ht2, hq2, hr2⟩ := hTh
    obtain ⟨k0, hS0⟩ := hS
    have hBl := HB.out.kept (l' := l2) (HEF.out.symm ▸ hS0.kept HU.out)
    obtain ⟨hkL, hkR⟩ := hS0.linkOf HU.out
    have c0 := cell_of_one X1
    by_cases h0 : n = 0
    · subst h0
      have hl1 : Calls Tryz.prog 104 #[.agg #[.pointer (some ⟨T, 0, none⟩)], .int .u64 left, .int .u64 0] wr _ := tlead_any ht2 left 0 (hBl.stand hkL).1 (hBl.stand hkL).2 (by omega)
      have hl2 : ∀ (w1 : World) (R3 : Option Nat) (l3 : List (Nat × Nat)), Thinks w1 T M R3 B D ws l3 → Calls Tryz.prog 104 #[.agg #[.pointer (some ⟨T, 0, none⟩)], .int .u64 right, .int .u64 0] w1 _ := fun w1 R3 l3 h3 => tlead_any h3 right 0 (hBl.stand hkR).1 (hBl.stand hkR).2 (by omega)
      clear hkL hkR hBl
      go_wp2_with (first | (go_at_call 104; (with_reducible refine hl1.mono ?_); rintro e w3 ⟨rfl, l3, ⟨R3, ht3, hq3, hr3⟩, hl3⟩; have c3 := cell_of_one (hq3.heap X1 (ht2.far X1 (by decide) (by decide)))) | (go_at_call 104; (with_reducible refine (hl2 _ _ _ ht3).mono ?_); rintro e w4 ⟨rfl, l4, ht4, hl4⟩))
      go_end0
      exact ⟨rfl, l4, Thought.first HG0.out (Thought.trans hq2 hr2 (Thought.trans hq3 hr3 ht4)), split_end HU.out hS0 hl3.off hl3.at_ hl4.off hl4.at_⟩
    · have h0' : ¬ (n : Int) = 0 := by omega
      have hnF := hsub n (hS0.mem h0)
      have hn64 := (HB.out.first hnF.1).2
      have hkey := fun (w1 : World) (hg : wr.grownBy w1 none) => tkey_any (ht2.later hg) n (by omega)
      rw [hBl.keys n hnF.1] at hkey
      have hcmp := fun w => tcompare_grown (z n) n zo off w
      have hcell : ∀ {wq : World}, wr.grownBy wq none → wq.cell? ⟨w.heap.size, 0, none⟩ = some (.pointer (some ⟨T, 0, none⟩)) ∧ wq.cell? ⟨w.heap.size + 1, 0, none⟩ = some (.int .u64 zo) ∧ wq.cell? ⟨w.heap.size + 1, 1, none⟩ = some (.int .u64 off) := fun {wq} hg => ⟨cell_of_one ((hg.block _ (lt_of_block X1) (by simp)).trans X1), two_cells (two_held X2 hg)⟩
      have HG : wr.grownBy wr.drew none := grown_drew (grown_refl _ _)
      obtain ⟨d0, d1, d2⟩ := hcell HG
      clear c0
      by_cases hlt : blkLt z n off
      · skip
        have hlead := fun (w1 : World) (hg : wr.grownBy w1 none) => tlead_any (ht2.later hg) left n (hBl.stand hkL).1 (hBl.stand hkL).2 (by omega)
        have hnext := fun (l3 : List (Nat × Nat)) (hl : Led ws l2 left n l3) => split_left HU.out hS0 h0 (hlt) hl.off hl.at_
        have hkept := fun (l3 : List (Nat × Nat)) (hl : Led ws l2 left n l3) => hBl.led hkL hl
        obtain ⟨n8, e8⟩ : ∃ q, n + 16 = q := ⟨_, rfl⟩
        have e9 : IntKind.u64.wrap ((n : Int) + 16) = (n8 : Nat) := by rw [IntKind.wrap_u64]; omega
        have hn8 : n8 < 18446744073709551616 := by omega
        rw [e8] at hnext
        rw [cmpK_lt (show ltK (z n) n zo off by rw [← HZ.out]; exact hlt)] at hcmp
        have HNX := Lib.hid hnext
        have HKP := Lib.hid hkept
        have HRP := Lib.hid (rank_pos h0 (by omega))
        clear hnext hkept hkL hkR hBl h0 hlt hn64 hS0 hnF e8
        go_wp2
        go_region_held3 (fun wq => wq.cell? ⟨w.heap.size, 0, none⟩ = some (.pointer (some ⟨T, 0, none⟩)) ∧ wq.cell? ⟨w.heap.size + 1, 0, none⟩ = some (.int .u64 zo) ∧ wq.cell? ⟨w.heap.size + 1, 1, none⟩ = some (.int .u64 off)) (exact hcell HG) (first | (go_at_call 98; (with_reducible refine (hkey _ HG).mono ?_); rintro e w9 ⟨rfl, hg9⟩; replace HG := grown_trans HG hg9; obtain ⟨d0, d1, d2⟩ := hcell HG) | (go_at_call 101; (with_reducible refine (hcmp _).mono ?_); rintro e w9 ⟨rfl, hg9⟩; replace HG := grown_trans HG hg9; obtain ⟨d0, d1, d2⟩ := hcell HG))
        go_wp2_with (first | (go_at_call 104; (with_reducible refine (hlead _ HG).mono ?_); rintro e w6 ⟨rfl, l3, ⟨R3, ht3, hq3, hr3⟩, hl3⟩; have c6 := cell_of_one (hq3.heap ((HG.block _ (lt_of_block X1) (by simp)).trans X1) ((ht2.later HG).far ((HG.block _ (lt_of_block X1) (by simp)).trans X1) (by decide) (by decide))); have hld := txload_any ht3 n8 hn8; obtain ⟨y, hy⟩ : ∃ y, txSee ws l3 n8 = y := ⟨_, rfl⟩; rw [hy] at hld; have HY := Lib.hid hy; clear hy) | (go_at_call 20; (with_reducible refine hld.mono ?_); rintro e w7 ⟨rfl, hg7⟩))
        go_roundw
        case rel =>
          obtain ⟨⟨j, _, hj⟩, _⟩ : (∃ j, j < k0 ∧ SplitAt f (txSee ws l3) z F lst off n8 right (txSee ws l3 n8) j ∧ _) ∧ True := ⟨HNX.out l3 hl3, trivial⟩
          exact ⟨n8, right, y, l3, by go_num, by go_num, by go_num, ⟨j, HY.out ▸ hj.1⟩, Thought.trans hq2 hr2 (Thought.first HG (Thought.later ⟨R3, ht3, hq3, hr3⟩ hg7))⟩
        case measure =>
          obtain ⟨j, _, _, hj⟩ := HNX.out l3 hl3
          have := rank_son (HY.out ▸ hj) HRP.out
          simpa [intOf] using this
      · have hgt : cmpK (z n) n zo off = 1 := by
          have hl2 := blkLt.total hlt hnF.2
          rw [← HZ.out]
          unfold blkLt keyLt at hl2
          unfold cmpK
          rcases hl2 with h1 | ⟨h1, h2⟩
          · rw [cmpN_gt h1]; simp
          · rw [h1, cmpN_eq, if_pos rfl, cmpN_gt h2]
        have hlead := fun (w1 : World) (hg : wr.grownBy w1 none) => tlead_any (ht2.later hg) right n (hBl.stand hkR).1 (hBl.stand hkR).2 (by omega)
        have hnext := fun (l3 : List (Nat × Nat)) (hl : Led ws l2 right n l3) => split_right HU.out hS0 h0 (blkLt.total hlt hnF.2) hl.off hl.at_
        have hkept := fun (l3 : List (Nat × Nat)) (hl : Led ws l2 right n l3) => hBl.led hkR hl
        obtain ⟨n8, e8⟩ : ∃ q, n + 8 = q := ⟨_, rfl⟩
        have e9 : IntKind.u64.wrap ((n : Int) + 8) = (n8 : Nat) := by rw [IntKind.wrap_u64]; omega
        have hn8 : n8 < 18446744073709551616 := by omega
        rw [e8] at hnext
        rw [hgt] at hcmp
        have HNX := Lib.hid hnext
        have HKP := Lib.hid hkept
        have HRP := Lib.hid (rank_pos h0 (by omega))
        clear hnext hkept hkL hkR hBl h0 hlt hn64 hS0 hnF e8
        go_wp2
        go_region_held3 (fun wq => wq.cell? ⟨w.heap.size, 0, none⟩ = some (.pointer (some ⟨T, 0, none⟩)) ∧ wq.cell? ⟨w.heap.size + 1, 0, none⟩ = some (.int .u64 zo) ∧ wq.cell? ⟨w.heap.size + 1, 1, none⟩ = some (.int .u64 off)) (exact hcell HG) (first | (go_at_call 98; (with_reducible refine (hkey _ HG).mono ?_); rintro e w9 ⟨rfl, hg9⟩; replace HG := grown_trans HG hg9; obtain ⟨d0, d1, d2⟩ := hcell HG) | (go_at_call 101; (with_reducible refine (hcmp _).mono ?_); rintro e w9 ⟨rfl, hg9⟩; replace HG := grown_trans HG hg9; obtain ⟨d0, d1, d2⟩ := hcell HG))
        go_wp2_with (first | (go_at_call 104; (with_reducible refine (hlead _ HG).mono ?_); rintro e w6 ⟨rfl, l3, ⟨R3, ht3, hq3, hr3⟩, hl3⟩; have c6 := cell_of_one (hq3.heap ((HG.block _ (lt_of_block X1) (by simp)).trans X1) ((ht2.later HG).far ((HG.block _ (lt_of_block X1) (by simp)).trans X1) (by decide) (by decide))); have hld := txload_any ht3 n8 hn8; obtain ⟨y, hy⟩ : ∃ y, txSee ws l3 n8 = y := ⟨_, rfl⟩; rw [hy] at hld; have HY := Lib.hid hy; clear hy) | (go_at_call 20; (with_reducible refine hld.mono ?_); rintro e w7 ⟨rfl, hg7⟩))
        go_roundw
        case rel =>
          obtain ⟨⟨j, _, hj⟩, _⟩ : (∃ j, j < k0 ∧ SplitAt f (txSee ws l3) z F lst off left n8 (txSee ws l3 n8) j ∧ _) ∧ True := ⟨HNX.out l3 hl3, trivial⟩
          exact ⟨left, n8, y, l3, by go_num, by go_num, by go_num, ⟨j, HY.out ▸ hj.1⟩, Thought.trans hq2 hr2 (Thought.first HG (Thought.later ⟨R3, ht3, hq3, hr3⟩ hg7))⟩
        case measure =>
          obtain ⟨j, _, _, hj⟩ := HNX.out l3 hl3
          have := rank_son (HY.out ▸ hj) HRP.out
          simpa [intOf] using this
end
end Go.Proofs.YtoamlkljfmgomaaGreat

/-
  Package tree: the contract of join.
  Conditions: the Tx stands in memory; the words say trees of blocks.
-/
namespace Go.Proofs.YtoamlkljfmgomaaGreat
open Go.RowKit
set_option linter.unusedVariables false
set_option linter.unusedSimpArgs false
set_option maxRecDepth 100000

/-- join, however far it is still -/
def JoinE (g z : Nat → Nat) (F U : List Nat) (lk left right : Nat) : Prop := ∃ k, JoinAt g z F U lk left right k
section
variable {w : World} {T M : Nat} {R : Option Nat} {B D : Nat} {ws : List Nat} {l l' : List (Nat × Nat)} {z : Nat → Nat} {F S U lst : List Nat} {off lk n k v left right : Nat}
theorem JoinE.lt {g : Nat → Nat} (hU : Lot F U) (h : JoinE g z F U lk left right) : LinkOf F lk ∧ left < 18446744073709551600 ∧ right < 18446744073709551600 ∧ (left ≠ 0 → rkN left ≠ rkN right) ∧ (left ≠ 0 → left ∈ F) ∧ (right ≠ 0 → right ∈ F) := by
  obtain ⟨k, h⟩ := h
  obtain ⟨h1, h2, h3⟩ := h.mem
  have hF : ∀ {x}, x ∈ U → x < 18446744073709551600 := fun {x} hx => by have := hU.free.on x (hU.sub x hx); omega
  have hl : left < 18446744073709551600 := by
    by_cases e : left = 0
    · omega
    · exact hF (h1 e)
  have hr : right < 18446744073709551600 := by
    by_cases e : right = 0
    · omega
    · exact hF (h2 e)
  exact ⟨h.link, hl, hr, fun e e2 => h3 e hU.nodup (rkN_inj (by omega) (by omega) e2), fun e => hU.sub _ (h1 e), fun e => hU.sub _ (h2 e)⟩
set_option maxHeartbeats 4000000 in
theorem tjoin_any (h : Thinks w T M R B D ws l) (hB : Bed ws l z F) (hU : Lot F U) (hJ : JoinE (txSee ws l) z F U lk left right) :
    Calls Tryz.prog 71 #[.agg #[.pointer (some ⟨T, 0, none⟩)], .int .u64 lk, .int .u64 left, .int .u64 right] w fun e w' => e = .returned (.tuple #[]) ∧ ∃ l', Thought w T M R B D ws l' w' ∧ TreeOf (txSee ws l') rkN (txSee ws l' 32) U ∧ Kept F (txSee ws l) (txSee ws l') := by
  obtain ⟨f, ef⟩ : ∃ f, txSee ws l = f := ⟨_, rfl⟩
  rw [ef] at hJ ⊢
  have hmix := fun x w => mix_rk x w
  have hg0 : w.grownBy (w.alloc (.cells #[.pointer (some ⟨T, 0, none⟩)] 126)) none := World.grownBy_alloc _ _ _
  have ha : (w.alloc (.cells #[.pointer (some ⟨T, 0, none⟩)] 126)).heap[w.heap.size]? = some (.cells #[.pointer (some ⟨T, 0, none⟩)] 126 (0, 0)) := heap_alloc_new' _ _
  obtain ⟨W, hW⟩ : ∃ W, w.alloc (.cells #[.pointer (some ⟨T, 0, none⟩)] 126) = W := ⟨_, rfl⟩
  rw [hW] at ha hg0
  have hTW := h.later hg0
  have hbox : ∀ {wr : World} {l2 : List (Nat × Nat)}, Thought W T M R B D ws l2 wr → wr.heap[w.heap.size]? = some (.cells #[.pointer (some ⟨T, 0, none⟩)] 126 (0, 0)) := fun {wr l2} ⟨R', k1, k2, k3⟩ => k2.heap ha (hTW.far ha (by decide) (by decide))
  have HB := Lib.hid hB
  have HU := Lib.hid hU
  have HJ := Lib.hid hJ
  have HTW := Lib.hid (Thought.same hTW (grown_refl W none))
  have HG0 := Lib.hid hg0
  have HEF := Lib.hid ef
  clear hB hU ha hTW h hg0 ef hJ
  go_enter Tryz.func71, Tryz.ntmps71
  go_wp2
  go_loopw [1, 2, 3] (fun p q j wr => ∃ lk left right l2, p = .int .u64 (lk : Nat) ∧ q = .int .u64 (left : Nat) ∧ j = .int .u64 (right : Nat) ∧ JoinE (txSee ws l2) z F U lk left right ∧ Kept F f (txSee ws l2) ∧ Thought W T M R B D ws l2 wr) (fun p q j _ => rkN (intOf q).toNat + rkN (intOf j).toNat)
  case atStart => exact ⟨lk, left, right, l, rfl, rfl, rfl, HEF.out ▸ HJ.out, by rw [HEF.out]; exact Kept.refl, HTW.out⟩
  case round =>
    obtain ⟨lk, left, right, l2, rfl, rfl, rfl, hS, hK, hTh⟩ := hrel
    have X1 := hbox hTh
    obtain ⟨R2, ht2, hq2, hr2⟩ := hTh
    have hBl := HB.out.kept (l' := l2) (HEF.out.symm ▸ hK)
    obtain ⟨hk, hl64, hr64, hne, hlF, hrF⟩ := hS.lt HU.out
    have HK := Lib.hid hK
    have HS := Lib.hid hS
    have c0 := cell_of_one X1
    clear hS hK HJ
    by_cases h0 : left = 0 ∨ right = 0
    · have hfin : ∀ m : Nat, m < 18446744073709551616 → Calls Tryz.prog 104 #[.agg #[.pointer (some ⟨T, 0, none⟩)], .int .u64 lk, .int .u64 m] wr _ := fun m hm => tlead_any ht2 lk m (hBl.stand hk).1 (hBl.stand hk).2 hm
      have HKP := Lib.hid (fun (l3 : List (Nat × Nat)) (hl : Led ws l2 lk (max left right) l3) => (show TreeOf (txSee ws l3) rkN (txSee ws l3 32) U ∧ Kept F f (txSee ws l3) by
        obtain ⟨k, hk0⟩ := HS.out
        exact ⟨join_end HU.out hk0 h0 hl.off hl.at_, HK.out.trans (Kept.put hk hl.off)⟩))
      clear hne hlF hrF
      by_cases hl0 : left = 0
      · subst hl0
        rw [Nat.zero_max] at HKP
        by_cases hr0 : right = 0
        · subst hr0
          have hf1 : Calls Tryz.prog 104 #[.agg #[.pointer (some ⟨T, 0, none⟩)], .int .u64 lk, .int .u64 0] wr _ := hfin 0 (by omega)
          clear hfin h0 hk hBl
          go_wp2_with (first | (go_at_call 104; (with_reducible refine hf1.mono ?_); rintro e w3 ⟨rfl, l3, ht3, hl3⟩))
          go_end0
          obtain ⟨q1, q2⟩ := HKP.out l3 hl3
          exact ⟨rfl, l3, Thought.first HG0.out (Thought.trans hq2 hr2 ht3), q1, q2⟩
        · have hf1 := hfin right (by omega)
          have hr0' : ¬ (right : Int) = 0 := by omega
          have hr0'' : (0 : Int) < (right : Int) := by omega
          clear hfin h0 hk hBl hr0
          go_wp2_with (first | (go_at_call 104; (with_reducible refine hf1.mono ?_); rintro e w3 ⟨rfl, l3, ht3, hl3⟩))
          go_end0
          obtain ⟨q1, q2⟩ := HKP.out l3 hl3
          exact ⟨rfl, l3, Thought.first HG0.out (Thought.trans hq2 hr2 ht3), q1, q2⟩
      · obtain rfl : right = 0 := by omega
        rw [Nat.max_zero] at HKP
        have hf1 := hfin left (by omega)
        have hl0' : ¬ (left : Int) = 0 := by omega
        have hr0'' : (0 : Int) < (left : Int) := by omega
        clear hfin h0 hk hBl hl0
        go_wp2_with (first | (go_at_call 104; (with_reducible refine hf1.mono ?_); rintro e w3 ⟨rfl, l3, ht3, hl3⟩))
        go_end0
        obtain ⟨q1, q2⟩ := HKP.out l3 hl3
        exact ⟨rfl, l3, Thought.first HG0.out (Thought.trans hq2 hr2 ht3), q1, q2⟩
    · have hl0 : left ≠ 0 := by omega
      have hr0 : right ≠ 0 := by omega
      have hl0' : ¬ (left : Int) = 0 := by omega
      have hr0' : ¬ (right : Int) = 0 := by omega
      have hne2 := hne hl0
      have hb1 : ((left : Int) != 0) = true := by simpa using hl0
      have hb2 : ((right : Int) != 0) = true := by simpa using hr0
      by_cases hr : rkN right < rkN left
      · have hr' : ((rkN right : Nat) : Int) < (rkN left : Nat) := by omega
        have hlead := tlead_any ht2 lk left (hBl.stand hk).1 (hBl.stand hk).2 (by omega)
        have HNX := Lib.hid (fun (l3 : List (Nat × Nat)) (hl : Led ws l2 lk left l3) => (show _ from (HS.out.elim fun k hk0 => join_left HU.out hk0 hl0 (by omega) hl.off hl.at_)))
        have HKP := Lib.hid (fun (l3 : List (Nat × Nat)) (hl : Led ws l2 lk left l3) => HK.out.trans (Kept.put hk hl.off))
        obtain ⟨n8, e8⟩ : ∃ q, left + 16 = q := ⟨_, rfl⟩
        have e9 : IntKind.u64.wrap ((left : Int) + 16) = (n8 : Nat) := by rw [IntKind.wrap_u64]; omega
        have hn8 : n8 < 18446744073709551616 := by omega
        rw [e8] at HNX
        have HRP := Lib.hid (rank_pos hl0 (by omega))
        clear hk hBl hl0 hr0 e8 hr hne hlF hrF h0 hl64 hr64 hne2
        go_wp2_with (first | (go_at_call 102; (with_reducible refine (hmix _ _).mono ?_); rintro e w3 ⟨rfl, rfl⟩) | (go_at_call 104; (with_reducible refine hlead.mono ?_); rintro e w6 ⟨rfl, l3, ⟨R3, ht3, hq3, hr3⟩, hl3⟩; have c6 := cell_of_one (hq3.heap X1 (ht2.far X1 (by decide) (by decide))); have hld := txload_any ht3 n8 hn8; obtain ⟨y, hy⟩ : ∃ y, txSee ws l3 n8 = y := ⟨_, rfl⟩; rw [hy] at hld; have HY := Lib.hid hy; clear hy) | (go_at_call 20; (with_reducible refine hld.mono ?_); rintro e w7 ⟨rfl, hg7⟩))
        go_roundw
        case rel => exact ⟨n8, y, right, l3, by go_num, by go_num, by go_num, HY.out ▸ (HNX.out l3 hl3).1, HKP.out l3 hl3, Thought.trans hq2 hr2 (Thought.later ⟨R3, ht3, hq3, hr3⟩ hg7)⟩
        case measure =>
          have := rank_son (HY.out ▸ (HNX.out l3 hl3).2) HRP.out
          simp only [intOf, Int.toNat_natCast]
          omega
      · have hr' : ¬ ((rkN right : Nat) : Int) < (rkN left : Nat) := by omega
        have hlead := tlead_any ht2 lk right (hBl.stand hk).1 (hBl.stand hk).2 (by omega)
        have HNX := Lib.hid (fun (l3 : List (Nat × Nat)) (hl : Led ws l2 lk right l3) => (show _ from (HS.out.elim fun k hk0 => join_right HU.out hk0 hr0 (by omega) hl.off hl.at_)))
        have HKP := Lib.hid (fun (l3 : List (Nat × Nat)) (hl : Led ws l2 lk right l3) => HK.out.trans (Kept.put hk hl.off))
        obtain ⟨n8, e8⟩ : ∃ q, right + 8 = q := ⟨_, rfl⟩
        have e9 : IntKind.u64.wrap ((right : Int) + 8) = (n8 : Nat) := by rw [IntKind.wrap_u64]; omega
        have hn8 : n8 < 18446744073709551616 := by omega
        rw [e8] at HNX
        have HRP := Lib.hid (rank_pos hr0 (by omega))
        clear hk hBl hl0 hr0 e8 hr hne hlF hrF h0 hl64 hr64 hne2
        go_wp2_with (first | (go_at_call 102; (with_reducible refine (hmix _ _).mono ?_); rintro e w3 ⟨rfl, rfl⟩) | (go_at_call 104; (with_reducible refine hlead.mono ?_); rintro e w6 ⟨rfl, l3, ⟨R3, ht3, hq3, hr3⟩, hl3⟩; have c6 := cell_of_one (hq3.heap X1 (ht2.far X1 (by decide) (by decide))); have hld := txload_any ht3 n8 hn8; obtain ⟨y, hy⟩ : ∃ y, txSee ws l3 n8 = y := ⟨_, rfl⟩; rw [hy] at hld; have HY := Lib.hid hy; clear hy) | (go_at_call 20; (with_reducible refine hld.mono ?_); rintro e w7 ⟨rfl, hg7⟩))
        go_roundw
        case rel => exact ⟨n8, left, y, l3, by go_num, by go_num, by go_num, HY.out ▸ (HNX.out l3 hl3).1, HKP.out l3 hl3, Thought.trans hq2 hr2 (Thought.later ⟨R3, ht3, hq3, hr3⟩ hg7)⟩
        case measure =>
          have := rank_son (HY.out ▸ (HNX.out l3 hl3).2) HRP.out
          simp only [intOf, Int.toNat_natCast]
          omega
end
end Go.Proofs.YtoamlkljfmgomaaGreat

/-
  Package tree: the contracts of Insert and Delete.
  Conditions: the Tx stands in memory; the words say the tree of some blocks.
-/
namespace Go.Proofs.YtoamlkljfmgomaaGreat
open Go.RowKit
set_option linter.unusedVariables false
set_option linter.unusedSimpArgs false
set_option maxRecDepth 100000

section
variable {w : World} {T M : Nat} {R : Option Nat} {B D : Nat} {ws : List Nat} {l l' : List (Nat × Nat)} {z : Nat → Nat} {F S U lst : List Nat} {off lk n k v left right : Nat}
theorem TreeIs.tame {f : Nat → Nat} (h : TreeIs f z F lst) : Tame z F (srtK z lst) := ⟨h.free, srtK_rising h.nodup, fun x hx => h.sub x (srtK_mem.1 hx)⟩
theorem filter_nodup (h : lst.Nodup) (p : Nat → Bool) : (lst.filter p).Nodup := h.filter p
theorem TreeIs.gone {f g : Nat → Nat} (h : TreeIs f z F lst) (ht : TreeOf g rkN (g 32) ((srtK z lst).filter fun a => decide (a ≠ off))) : TreeIs g z F (lst.filter fun a => decide (a ≠ off)) :=
  ⟨h.free, fun x hx => h.sub x (List.mem_filter.1 hx).1, h.nodup.filter _, by rw [srtK_erase h.nodup]; exact ht⟩
theorem TreeIs.come {f g : Nat → Nat} (h : TreeIs f z F lst) (ho : off ∈ F) (hn : off ∉ lst) (ht : TreeOf g rkN (g 32) (insK z off (srtK z lst))) : TreeIs g z F (lst ++ [off]) := by
  refine ⟨h.free, fun x hx => ?_, ?_, by rw [srtK_snoc]; exact ht⟩
  · rcases List.mem_append.1 hx with hx | hx
    · exact h.sub x hx
    · have : x = off := by simpa using hx
      rw [this]; exact ho
  · rw [List.nodup_append]
    refine ⟨h.nodup, by simp, fun a ha b hb e => ?_⟩
    have : b = off := by simpa using hb
    exact hn (this ▸ e ▸ ha)
theorem Tame.lot (h : Tame z F S) (p : Nat → Bool) : Lot F (S.filter p) := ⟨h.free, h.rise.nodup.filter p, fun x hx => h.sub x (List.mem_filter.1 hx).1⟩
set_option maxHeartbeats 4000000 in
theorem tinsert_any (h : Thinks w T M R B D ws l) (hB : Bed ws l z F) (hI : TreeIs (txSee ws l) z F lst) (ho : off ∈ F) (hn : off ∉ lst) :
    Calls Tryz.prog 72 #[.pointer (some ⟨T, 0, none⟩), .int .u64 off] w fun e w' => e = .returned (.tuple #[]) ∧ ∃ l', Thought w T M R B D ws l' w' ∧ Bed ws l' z F ∧ TreeIs (txSee ws l') z F (lst ++ [off]) ∧ Kept F (txSee ws l) (txSee ws l') := by
  have ho64 := (hB.first ho).2
  have hg0 : w.grownBy (w.alloc (.cells #[.pointer (some ⟨T, 0, none⟩)] 126)) none := World.grownBy_alloc _ _ _
  have ha : (w.alloc (.cells #[.pointer (some ⟨T, 0, none⟩)] 126)).heap[w.heap.size]? = some (.cells #[.pointer (some ⟨T, 0, none⟩)] 126 (0, 0)) := heap_alloc_new' _ _
  have hfind := tfind_any (h.later hg0) hB hI.tame hI.tree ho
  have hd : decide (off ∈ srtK z lst) = false := decide_eq_false fun hm => hn (srtK_mem.1 hm)
  rw [hd] at hfind
  have hload := fun (w1 : World) (hg : w.grownBy w1 none) (q : Nat) (hq : q < 18446744073709551616) => txload_any (h.later hg) q hq
  have hlead := fun (w1 : World) (hg : w.grownBy w1 none) (lk : Nat) (hL : LinkOf F lk) => tlead_any (h.later hg) lk off (hB.stand hL).1 (hB.stand hL).2 (by omega)
  have HA := Lib.hid ha
  have HI := Lib.hid hI
  have HB := Lib.hid hB
  have HTH := Lib.hid h
  have hlk64 := fun lk (hL : LinkOf F lk) => (hB.stand hL).2
  clear ha hI hB hd
  go_enter Tryz.func72, Tryz.ntmps72
  go_wp2_with (first | (go_at_call 70; (with_reducible refine hfind.mono ?_); rintro e w1 ⟨hg1, lk, n, hF, hlk, hL, rfl⟩; have HF := Lib.hid hF; have HL := Lib.hid hL; have G1 := grown_trans hg0 hg1; have X1 := Lib.hid ((hg1.block _ (lt_of_block HA.out) (by simp)).trans HA.out); have c1 := cell_of_one X1.out; have hld := hload _ G1 lk (hlk64 lk hL); rw [hlk] at hld; have HLK := Lib.hid hlk; clear hlk hL hF) | (go_at_call 20; (with_reducible refine hld.mono ?_); rintro e w2 ⟨rfl, hg2⟩; have G2 := grown_trans G1 hg2; have X2 := Lib.hid ((hg2.block _ (lt_of_block X1.out) (by simp)).trans X1.out); have c2 := cell_of_one X2.out) | (go_at_call 104; (with_reducible refine (hlead _ G2 lk HL.out).mono ?_); rintro e w4 ⟨rfl, l3, ⟨R3, ht3, hq3, hr3⟩, hl3⟩))
  have X4 := hq3.heap X2.out ((h.later G2).far X2.out (by decide) (by decide))
  have hB3 := HB.out.led HL.out hl3
  obtain ⟨k, hway⟩ := HF.out.way
  obtain ⟨lst', htr, hU, hend⟩ := insert_end HI.out.tame ho (fun hm => hn (srtK_mem.1 hm)) hway HF.out.stop hl3.off hl3.at_
  have hkey := fun (w1 : World) (hg : w4.grownBy w1 none) => tkey_any (ht3.later hg) off (by omega)
  rw [hB3.keys off ho] at hkey
  have hsplit := fun (w1 : World) (hg : w4.grownBy w1 none) => tsplit_any (ht3.later hg) hB3 hU n htr
  obtain ⟨zo, hzo⟩ : ∃ q, z off = q := ⟨_, rfl⟩
  rw [hzo] at hkey hsplit
  have hcell : ∀ {wq : World}, w4.grownBy wq none → wq.cell? ⟨w.heap.size, 0, none⟩ = some (.pointer (some ⟨T, 0, none⟩)) := fun {wq} hg => cell_of_one ((hg.block _ (lt_of_block X4) (by simp)).trans X4)
  have hfar : ∀ {w5 w6 : World} {l5 : List (Nat × Nat)}, w4.grownBy w5 none → Thought w5 T M R3 B D ws l5 w6 → w6.cell? ⟨w.heap.size, 0, none⟩ = some (.pointer (some ⟨T, 0, none⟩)) := fun {w5 w6 l5} hg ⟨_, _, q5, _⟩ => cell_of_one (q5.heap ((hg.block _ (lt_of_block X4) (by simp)).trans X4) ((ht3.later hg).far ((hg.block _ (lt_of_block X4) (by simp)).trans X4) (by decide) (by decide)))
  have HG : w4.grownBy w4.drew none := grown_drew (grown_refl _ _)
  have d0 := hcell HG
  have HEND := Lib.hid hend
  have HT3 := Lib.hid (show Thought w T M R B D ws l3 w4 from Thought.first G2 ⟨R3, ht3, hq3, hr3⟩)
  have HQ := Lib.hid (show ∀ (l5 : List (Nat × Nat)) (w6 : World), Thought w4 T M R3 B D ws l5 w6 → Thought w T M R B D ws l5 w6 from fun l5 w6 hx => Thought.first G2 (Thought.trans hq3 hr3 hx))
  clear hend hway hU htr c1 c2 hld hload hlead hfind hzo hg0 hlk64
  go_region_held3 (fun wq => wq.cell? ⟨w.heap.size, 0, none⟩ = some (.pointer (some ⟨T, 0, none⟩))) (first | exact hcell HG | exact hcellE) (first | (go_at_call 98; (with_reducible refine (hkey _ HG).mono ?_); rintro e w9 ⟨rfl, hg9⟩; replace HG := grown_trans HG hg9; have d1 := hcell HG) | (go_at_call 105; (with_reducible refine (hsplit _ HG).mono ?_); rintro e w10 ⟨rfl, l4, ht4, hsp⟩; have hcellE := hfar HG ht4; clear hcell))
  go_end0
  obtain ⟨a, b, e1, e2, e3, e4, e5, e6⟩ := hsp
  obtain ⟨q1, q2⟩ := HEND.out _ a b e1 e2 e3 e4 e5 e6
  exact ⟨rfl, l4, HQ.out _ _ (Thought.first HG ht4), HB.out.kept q2, HI.out.come ho hn q1, q2⟩
set_option maxHeartbeats 4000000 in
theorem tdelete_yes (h : Thinks w T M R B D ws l) (hB : Bed ws l z F) (hI : TreeIs (txSee ws l) z F lst) (ho : off ∈ F) (hn : off ∈ lst) :
    Calls Tryz.prog 37 #[.pointer (some ⟨T, 0, none⟩), .int .u64 off] w fun e w' => e = .returned (.bool true) ∧ ∃ l', Thought w T M R B D ws l' w' ∧ Bed ws l' z F ∧ TreeIs (txSee ws l') z F (lst.filter fun a => decide (a ≠ off)) ∧ Kept F (txSee ws l) (txSee ws l') := by
  have ho64 := (hB.first ho).2
  have hg0 : w.grownBy (w.alloc (.cells #[.pointer (some ⟨T, 0, none⟩)] 126)) none := World.grownBy_alloc _ _ _
  have ha : (w.alloc (.cells #[.pointer (some ⟨T, 0, none⟩)] 126)).heap[w.heap.size]? = some (.cells #[.pointer (some ⟨T, 0, none⟩)] 126 (0, 0)) := heap_alloc_new' _ _
  have hfind := tfind_any (h.later hg0) hB hI.tame hI.tree ho
  have hd : decide (off ∈ srtK z lst) = true := decide_eq_true (srtK_mem.2 hn)
  rw [hd] at hfind
  have hload8 := fun (w1 : World) (hg : w.grownBy w1 none) => txload_any (h.later hg) (off + 8) (by omega)
  have hload16 := fun (w1 : World) (hg : w.grownBy w1 none) => txload_any (h.later hg) (off + 16) (by omega)
  have e8 : IntKind.u64.wrap ((off : Int) + 8) = (off + 8 : Nat) := by rw [IntKind.wrap_u64]; omega
  have e16 : IntKind.u64.wrap ((off : Int) + 16) = (off + 16 : Nat) := by rw [IntKind.wrap_u64]; omega
  obtain ⟨y8, ey8⟩ : ∃ q, txSee ws l (off + 8) = q := ⟨_, rfl⟩
  obtain ⟨y16, ey16⟩ : ∃ q, txSee ws l (off + 16) = q := ⟨_, rfl⟩
  rw [ey8] at hload8
  rw [ey16] at hload16
  obtain ⟨o8, eo8⟩ : ∃ q, off + 8 = q := ⟨_, rfl⟩
  obtain ⟨o16, eo16⟩ : ∃ q, off + 16 = q := ⟨_, rfl⟩
  rw [eo8] at e8 hload8
  rw [eo16] at e16 hload16
  have hjoin := fun (w1 : World) (hg : w.grownBy w1 none) (lk : Nat) (hj : JoinE (txSee ws l) z F ((srtK z lst).filter fun a => decide (a ≠ off)) lk y8 y16) => tjoin_any (h.later hg) hB (hI.tame.lot _) hj
  have hJ : ∀ lk n, Found (txSee ws l) z F (srtK z lst) off lk n → JoinE (txSee ws l) z F ((srtK z lst).filter fun a => decide (a ≠ off)) lk y8 y16 := fun lk n hF => by
    obtain ⟨k, hk⟩ := hF.way
    have hno := hF.is.2 (srtK_mem.2 hn)
    rw [hno] at hk
    have hj := join_start hI.tame hk ho
    rw [ey8, ey16] at hj
    exact hj
  have HA := Lib.hid ha
  have HI := Lib.hid hI
  have HB := Lib.hid hB
  have HTH := Lib.hid h
  have HJ := Lib.hid hJ
  clear ha hI hB hd eo8 eo16 ey8 ey16 hJ
  go_enter Tryz.func37, Tryz.ntmps37
  go_wp2_with (first | (go_at_call 70; (with_reducible refine hfind.mono ?_); rintro e w1 ⟨hg1, lk, n, hF, hlk, hL, rfl⟩; have HF := Lib.hid hF; have G1 := grown_trans hg0 hg1; have X1 := Lib.hid ((hg1.block _ (lt_of_block HA.out) (by simp)).trans HA.out); have c1 := cell_of_one X1.out; clear hlk hL hF))
  have X4 := X1.out
  have hj2 := fun (w1 : World) (hg : w.grownBy w1 none) => hjoin w1 hg lk (HJ.out lk n HF.out)
  have hcell : ∀ {wq : World}, w1.grownBy wq none → wq.cell? ⟨w.heap.size, 0, none⟩ = some (.pointer (some ⟨T, 0, none⟩)) := fun {wq} hg => cell_of_one ((hg.block _ (lt_of_block X4) (by simp)).trans X4)
  have hfar : ∀ {w5 w6 : World} {l5 : List (Nat × Nat)}, w1.grownBy w5 none → Thought w5 T M R B D ws l5 w6 → w6.cell? ⟨w.heap.size, 0, none⟩ = some (.pointer (some ⟨T, 0, none⟩)) := fun {w5 w6 l5} hg ⟨_, _, q5, _⟩ => cell_of_one (q5.heap ((hg.block _ (lt_of_block X4) (by simp)).trans X4) ((h.later (grown_trans G1 hg)).far ((hg.block _ (lt_of_block X4) (by simp)).trans X4) (by decide) (by decide)))
  have HG : w1.grownBy w1.drew none := grown_drew (grown_refl _ _)
  have d0 := hcell HG
  clear c1 hfind hg0 hjoin
  go_region_held3 (fun wq => wq.cell? ⟨w.heap.size, 0, none⟩ = some (.pointer (some ⟨T, 0, none⟩))) (first | exact hcell HG | exact hcellE) (first | (go_at_call 20; (with_reducible refine (hload8 _ (grown_trans G1 HG)).mono ?_); rintro e w9 ⟨rfl, hg9⟩; replace HG := grown_trans HG hg9; have d1 := hcell HG) | (go_at_call 20; (with_reducible refine (hload16 _ (grown_trans G1 HG)).mono ?_); rintro e w9 ⟨rfl, hg9⟩; replace HG := grown_trans HG hg9; have d1 := hcell HG) | (go_at_call 71; (with_reducible refine (hj2 _ (grown_trans G1 HG)).mono ?_); rintro e w10 ⟨rfl, l4, ht4, hsp1, hsp2⟩; have hcellE := hfar HG ht4; clear hcell))
  go_wp2
  go_ret
  exact ⟨rfl, l4, Thought.first (grown_trans G1 HG) ht4, HB.out.kept hsp2, HI.out.gone hsp1, hsp2⟩
set_option maxHeartbeats 1000000 in
theorem tdelete_no (h : Thinks w T M R B D ws l) (hB : Bed ws l z F) (hI : TreeIs (txSee ws l) z F lst) (ho : off ∈ F) (hn : off ∉ lst) :
    Calls Tryz.prog 37 #[.pointer (some ⟨T, 0, none⟩), .int .u64 off] w fun e w' => e = .returned (.bool false) ∧ w.grownBy w' none := by
  have hg0 : w.grownBy (w.alloc (.cells #[.pointer (some ⟨T, 0, none⟩)] 126)) none := World.grownBy_alloc _ _ _
  have hfind := tfind_any (h.later hg0) hB hI.tame hI.tree ho
  have hd : decide (off ∈ srtK z lst) = false := decide_eq_false fun hm => hn (srtK_mem.1 hm)
  rw [hd] at hfind
  clear hI hB hd h
  go_enter Tryz.func37, Tryz.ntmps37
  go_wp2_with (first | (go_at_call 70; (with_reducible refine hfind.mono ?_); rintro e w1 ⟨hg1, lk, n, hF, hlk, hL, rfl⟩; clear hlk hL hF))
  go_ret
  exact ⟨rfl, grown_trans hg0 hg1⟩
end
end Go.Proofs.YtoamlkljfmgomaaGreat

/-
  slices.SortFunc at nodes of a tree: the library's functions lie in this program as the shelf has them.
  No condition.
-/
namespace Go.Proofs.YtoamlkljfmgomaaGreat
set_option linter.unusedVariables false
set_option maxRecDepth 100000

def sortNode_ren : Go.Shelf.Ren := ⟨fun | 6 => 99 | 15 => 118 | 14 => 117 | 28 => 131 | 29 => 132 | 20 => 123 | 21 => 124 | 22 => 125 | 23 => 126 | 24 => 127 | 25 => 128 | 26 => 129 | 27 => 130 | 46 => 134 | 47 => 135 | 48 => 136 | 49 => 137 | 50 => 138 | 57 => 139 | n => n, fun | 22 => 127 | 24 => 133 | 25 => 168 | 3 => 3 | 39 => 63 | 0 => 0 | 53 => 193 | 55 => 23 | 4 => 4 | 46 => 186 | 45 => 185 | 50 => 190 | 5 => 5 | 9 => 9 | 66 => 195 | 70 => 198 | 76 => 200 | 77 => 201 | n => n, fun | n => n⟩
theorem sortNode : Go.Proofs.SlLaysF0.n6 Tryz.prog sortNode_ren where
  mixed := by kernel_rfl
  f6 := ⟨(Tryz.f99).name, by kernel_rfl, Tryz.func99.trans (congrArg some (by kernel_rfl))⟩
  f14 := ⟨(Tryz.f117).name, by kernel_rfl, Tryz.func117.trans (congrArg some (by kernel_rfl))⟩
  f15 := Tryz.func118.trans (congrArg some (by kernel_rfl))
  f20 := ⟨(Tryz.f123).name, by kernel_rfl, Tryz.func123.trans (congrArg some (by kernel_rfl))⟩
  f21 := ⟨(Tryz.f124).name, by kernel_rfl, Tryz.func124.trans (congrArg some (by kernel_rfl))⟩
  f22 := ⟨(Tryz.f125).name, by kernel_rfl, Tryz.func125.trans (congrArg some (by kernel_rfl))⟩
  f23 := ⟨(Tryz.f126).name, by kernel_rfl, Tryz.func126.trans (congrArg some (by kernel_rfl))⟩
  f24 := ⟨(Tryz.f127).name, by kernel_rfl, Tryz.func127.trans (congrArg some (by kernel_rfl))⟩
  f25 := ⟨(Tryz.f128).name, by kernel_rfl, Tryz.func128.trans (congrArg some (by kernel_rfl))⟩
  f26 := ⟨(Tryz.f129).name, by kernel_rfl, Tryz.func129.trans (congrArg some (by kernel_rfl))⟩
  f27 := ⟨(Tryz.f130).name, by kernel_rfl, Tryz.func130.trans (congrArg some (by kernel_rfl))⟩
  f28 := Tryz.func131.trans (congrArg some (by kernel_rfl))
  f29 := Tryz.func132.trans (congrArg some (by kernel_rfl))
  f46 := ⟨(Tryz.f134).name, by kernel_rfl, Tryz.func134.trans (congrArg some (by kernel_rfl))⟩
  f47 := Tryz.func135.trans (congrArg some (by kernel_rfl))
  f48 := Tryz.func136.trans (congrArg some (by kernel_rfl))
  f49 := ⟨(Tryz.f137).name, by kernel_rfl, Tryz.func137.trans (congrArg some (by kernel_rfl))⟩
  f50 := ⟨(Tryz.f138).name, by kernel_rfl, Tryz.func138.trans (congrArg some (by kernel_rfl))⟩
  f57 := ⟨(Tryz.f139).name, by kernel_rfl, Tryz.func139.trans (congrArg some (by kernel_rfl))⟩
  t0 := Tryz.underlying0
  a0 := Tryz.isAgg0
  z0 := Tryz.sizeOf0
  v0 := Tryz.zeroValue0
  t3 := Tryz.underlying3
  a3 := Tryz.isAgg3
  z3 := Tryz.sizeOf3
  v3 := Tryz.zeroValue3
  t4 := Tryz.underlying4
  a4 := Tryz.isAgg4
  z4 := Tryz.sizeOf4
  v4 := Tryz.zeroValue4
  t5 := Tryz.underlying5
  a5 := Tryz.isAgg5
  z5 := Tryz.sizeOf5
  v5 := Tryz.zeroValue5
  t9 := Tryz.underlying9
  a9 := Tryz.isAgg9
  z9 := Tryz.sizeOf9
  v9 := Tryz.zeroValue9
  t22 := Tryz.underlying127
  a22 := Tryz.isAgg127
  z22 := Tryz.sizeOf127
  v22 := Tryz.zeroValue127
  t25 := Tryz.underlying168
  a25 := Tryz.isAgg168
  z25 := Tryz.sizeOf168
  v25 := Tryz.zeroValue168
  t39 := Tryz.underlying63
  a39 := Tryz.isAgg63
  z39 := Tryz.sizeOf63
  v39 := Tryz.zeroValue63
  t45 := Tryz.underlying185
  a45 := Tryz.isAgg185
  z45 := Tryz.sizeOf185
  v45 := Tryz.zeroValue185
  t46 := Tryz.underlying186
  a46 := Tryz.isAgg186
  z46 := Tryz.sizeOf186
  v46 := Tryz.zeroValue186
  t50 := Tryz.underlying190
  a50 := Tryz.isAgg190
  z50 := Tryz.sizeOf190
  v50 := Tryz.zeroValue190
  t53 := Tryz.underlying193
  a53 := Tryz.isAgg193
  z53 := Tryz.sizeOf193
  v53 := Tryz.zeroValue193
  t55 := Tryz.underlying23
  a55 := Tryz.isAgg23
  z55 := Tryz.sizeOf23
  v55 := Tryz.zeroValue23
  t66 := Tryz.underlying195
  a66 := Tryz.isAgg195
  z66 := Tryz.sizeOf195
  v66 := Tryz.zeroValue195
  t70 := Tryz.underlying198
  a70 := Tryz.isAgg198
  z70 := Tryz.sizeOf198
  v70 := Tryz.zeroValue198
  t76 := Tryz.underlying200
  a76 := Tryz.isAgg200
  z76 := Tryz.sizeOf200
  v76 := Tryz.zeroValue200
  t77 := Tryz.underlying201
  a77 := Tryz.isAgg201
  z77 := Tryz.sizeOf201
  v77 := Tryz.zeroValue201
end Go.Proofs.YtoamlkljfmgomaaGreat

/-
  Nodes of a tree in memory, and slices.SortFunc of them: by their keys.
  No condition.
-/
namespace Go.Proofs.YtoamlkljfmgomaaGreat
open Go.RowKit
set_option linter.unusedVariables false
set_option linter.unusedSimpArgs false
set_option maxRecDepth 100000

/-- a node: its size, its offset, and its sons -/
structure Nd where
  s : Nat
  o : Nat
  l : Nat
  r : Nat
instance : Inhabited Nd := ⟨⟨0, 0, 0, 0⟩⟩
def Nd.row (x : Nd) : List Value := [.int .u64 (x.s : Nat), .int .u64 (x.o : Nat), .int .u64 (x.l : Nat), .int .u64 (x.r : Nat)]
def cellsN (l : List Nd) : List Value := l.flatMap Nd.row
theorem cellsN_cons (a : Nd) (l : List Nd) : cellsN (a :: l) = a.row ++ cellsN l := rfl
theorem cellsN_len : ∀ l : List Nd, (cellsN l).length = l.length * 4
  | [] => rfl
  | a :: l => by rw [cellsN_cons, List.length_append, cellsN_len l]; show 4 + _ = _; simp only [List.length_cons]; omega
theorem cellsN_at : ∀ (l : List Nd) (k i : Nat), k < l.length → i < 4 → (cellsN l)[k * 4 + i]? = (l.getD k default).row[i]?
  | [], k, i, h, _ => by simp at h
  | a :: l, 0, i, h, hi => by
    rw [cellsN_cons, Nat.zero_mul, Nat.zero_add, List.getElem?_append_left (by show i < 4; exact hi)]; rfl
  | a :: l, k + 1, i, h, hi => by
    rw [cellsN_cons, List.getElem?_append_right (by show 4 ≤ _; omega)]
    show (cellsN l)[(k + 1) * 4 + i - 4]? = _
    rw [show (k + 1) * 4 + i - 4 = k * 4 + i by omega, cellsN_at l k i (by simpa using h) hi]
    simp
theorem set_four (a : Nd) (l : List Value) (m : Nat) (v : Value) : (a.row ++ l).set (m + 4) v = a.row ++ l.set m v := by
  simp [Nd.row]
theorem cellsN_setL : ∀ (l : List Nd) (k v : Nat), k < l.length → (cellsN l).set (k * 4 + 2) (.int .u64 (v : Nat)) = cellsN (l.set k { l.getD k default with l := v })
  | [], k, v, h => by simp at h
  | a :: l, 0, v, h => by simp [cellsN_cons, Nd.row]
  | a :: l, k + 1, v, h => by
    rw [show (k + 1) * 4 + 2 = (k * 4 + 2) + 4 by omega, cellsN_cons, set_four, cellsN_setL l k v (by simpa using h)]
    simp [cellsN_cons]
theorem cellsN_setR : ∀ (l : List Nd) (k v : Nat), k < l.length → (cellsN l).set (k * 4 + 3) (.int .u64 (v : Nat)) = cellsN (l.set k { l.getD k default with r := v })
  | [], k, v, h => by simp at h
  | a :: l, 0, v, h => by simp [cellsN_cons, Nd.row]
  | a :: l, k + 1, v, h => by
    rw [show (k + 1) * 4 + 3 = (k * 4 + 3) + 4 by omega, cellsN_cons, set_four, cellsN_setR l k v (by simpa using h)]
    simp [cellsN_cons]
theorem cellsN_setK : ∀ (l : List Nd) (k x y : Nat), k < l.length → ((cellsN l).set (k * 4) (.int .u64 (x : Nat))).set (k * 4 + 1) (.int .u64 (y : Nat)) = cellsN (l.set k { l.getD k default with s := x, o := y })
  | [], k, x, y, h => by simp at h
  | a :: l, 0, x, y, h => by simp [cellsN_cons, Nd.row]
  | a :: l, k + 1, x, y, h => by
    rw [show (k + 1) * 4 = k * 4 + 4 by omega, show k * 4 + 4 + 1 = (k * 4 + 1) + 4 by omega, cellsN_cons, set_four, set_four, cellsN_setK l k x y (by simpa using h)]
    simp [cellsN_cons]
/-- Block g holds these nodes, and nothing else. -/
def NodesAt (w : World) (g : Nat) (nds : List Nd) : Prop := w.heap[g]? = some (.cells (cellsN nds).toArray 133 (0, 0))
section
variable {w w' : World} {g k : Nat} {nds : List Nd}
theorem NodesAt.lt (h : NodesAt w g nds) : g < w.heap.size := lt_of_block h
theorem NodesAt.cell (h : NodesAt w g nds) (hk : k < nds.length) : w.cell? ⟨g, k * 4, none⟩ = some (.int .u64 ((nds.getD k default).s : Nat)) ∧ w.cell? ⟨g, k * 4 + 1, none⟩ = some (.int .u64 ((nds.getD k default).o : Nat)) ∧ w.cell? ⟨g, k * 4 + 2, none⟩ = some (.int .u64 ((nds.getD k default).l : Nat)) ∧ w.cell? ⟨g, k * 4 + 3, none⟩ = some (.int .u64 ((nds.getD k default).r : Nat)) := by
  have hc : ∀ i, i < 4 → w.cell? ⟨g, k * 4 + i, none⟩ = (nds.getD k default).row[i]? := fun i hi => by
    unfold World.cell?
    rw [show w.heap[g]? = _ from h]
    simpa using cellsN_at nds k i hk hi
  exact ⟨hc 0 (by omega), hc 1 (by omega), hc 2 (by omega), hc 3 (by omega)⟩
theorem NodesAt.frozen (h : NodesAt w g nds) (i : Nat) : w.frozen? ⟨g, i, none⟩ = false := by
  unfold World.frozen?
  rw [show w.heap[g]? = _ from h]
  simp
theorem NodesAt.later {row : Option Nat} (h : NodesAt w g nds) (hg : w.grownBy w' row) (hr : some g ≠ row) : NodesAt w' g nds := (hg.block g h.lt hr).trans h
theorem NodesAt.setL (h : NodesAt w g nds) (hk : k < nds.length) (v : Nat) : NodesAt (w.setCell ⟨g, k * 4 + 2, none⟩ (.int .u64 (v : Nat))) g (nds.set k { nds.getD k default with l := v }) := by
  unfold NodesAt
  rw [heap_setCell_same h, List.setIfInBounds_toArray, cellsN_setL nds k v hk]
theorem NodesAt.setR (h : NodesAt w g nds) (hk : k < nds.length) (v : Nat) : NodesAt (w.setCell ⟨g, k * 4 + 3, none⟩ (.int .u64 (v : Nat))) g (nds.set k { nds.getD k default with r := v }) := by
  unfold NodesAt
  rw [heap_setCell_same h, List.setIfInBounds_toArray, cellsN_setR nds k v hk]
theorem NodesAt.setK (h : NodesAt w g nds) (hk : k < nds.length) (x y : Nat) : NodesAt ((w.setCell ⟨g, k * 4, none⟩ (.int .u64 (x : Nat))).setCell ⟨g, k * 4 + 1, none⟩ (.int .u64 (y : Nat))) g (nds.set k { nds.getD k default with s := x, o := y }) := by
  unfold NodesAt
  rw [heap_setCell_same (heap_setCell_same h _), List.setIfInBounds_toArray, List.setIfInBounds_toArray, cellsN_setK nds k x y hk]
end
/-! ### The sort -/
theorem flatK_cells (l : List Nd) : Go.Sort.flatK Nd.row 4 l.toArray = (cellsN l).toArray := by
  apply Array.ext
  · simp [cellsN_len]
  · intro i h1 h2
    simp only [Go.Sort.size_flatK, List.size_toArray] at h1
    have h3 := Go.Sort.get_flatK Nd.row 4 l.toArray i (by simpa using h1)
    rw [getElem!_pos _ i (by simpa using h1)] at h3
    rw [h3]
    have hk : i / 4 < l.length := by omega
    have h4 := cellsN_at l (i / 4) (i % 4) hk (by omega)
    rw [show i / 4 * 4 + i % 4 = i by omega] at h4
    have h5 : l.toArray[i / 4]! = l.getD (i / 4) default := by
      rw [getElem!_pos _ _ (by simpa using hk), List.getD_eq_getElem?_getD, List.getElem?_eq_getElem hk]
      simp
    rw [h5]
    have hlen : i % 4 < (l.getD (i / 4) default).row.length := by show _ < 4; omega
    rw [getElem!_pos (l.getD (i / 4) default).row (i % 4) hlen]
    rw [List.getElem?_eq_getElem hlen] at h4
    have h6 : i < (cellsN l).length := by rw [cellsN_len]; exact h1
    rw [List.getElem?_eq_getElem h6] at h4
    simp only [List.getElem_toArray]
    exact (Option.some.inj h4).symm
/-- which node's key is smaller -/
def cfN (x y : Nd) : Int := cmpK x.s x.o y.s y.o
theorem ltOf_cfN (x y : Nd) : Go.Proofs.ltOf cfN x y = decide (ltK x.s x.o y.s y.o) := by
  unfold Go.Proofs.ltOf cfN
  by_cases h : ltK x.s x.o y.s y.o
  · rw [cmpK_lt h, decide_eq_true h]; rfl
  · rw [decide_eq_false h]
    rcases cmpK_ge h with e | e <;> rw [e] <;> rfl
theorem swo_cfN : Go.Sort.SWO (Go.Proofs.ltOf cfN) where
  irrefl x := by rw [ltOf_cfN]; exact decide_eq_false (by unfold ltK; omega)
  trans x y z h1 h2 := by
    rw [ltOf_cfN] at *
    have h1 := of_decide_eq_true h1
    have h2 := of_decide_eq_true h2
    exact decide_eq_true (by unfold ltK at *; omega)
  ntrans x y z h1 h2 := by
    rw [ltOf_cfN] at *
    have h1 := of_decide_eq_false h1
    have h2 := of_decide_eq_false h2
    exact decide_eq_false (by unfold ltK at *; omega)
theorem four_cells {w : World} {b : Nat} {x y z u : Value} {t : TypeId} {fr : Nat × Nat} (h : w.heap[b]? = some (.cells #[x, y, z, u] t fr)) : w.cell? ⟨b, 0, none⟩ = some x ∧ w.cell? ⟨b, 1, none⟩ = some y ∧ w.cell? ⟨b, 2, none⟩ = some z ∧ w.cell? ⟨b, 3, none⟩ = some u := by
  refine ⟨?_, ?_, ?_, ?_⟩ <;> simp [World.cell?, h]
set_option maxHeartbeats 1000000 in
/-- the closure that the sort is handed -/
theorem shape1_any (x y : Nd) (W : World) : Calls Tryz.prog 100 #[.agg x.row.toArray, .agg y.row.toArray] W fun e w' => e = .returned (.int .i64 (cfN x y)) ∧ ∃ q os', w' = Go.Sort.grow (W.drewN q) os' := by
  obtain ⟨s, o, l, r⟩ := x
  obtain ⟨s', o', l', r'⟩ := y
  unfold cfN
  simp only [Nd.row]
  have hc := fun w => tcompare_any s o s' o' w
  obtain ⟨c, ec⟩ : ∃ c, cmpK s o s' o' = c := ⟨_, rfl⟩
  rw [ec] at hc ⊢
  have ha : ((W.alloc (.cells #[.int .u64 s, .int .u64 o, .int .u64 l, .int .u64 r] 133)).alloc (.cells #[.int .u64 s', .int .u64 o', .int .u64 l', .int .u64 r'] 133)).heap[W.heap.size]? = some (.cells #[.int .u64 s, .int .u64 o, .int .u64 l, .int .u64 r] 133 (0, 0)) := (Below.heap_alloc _ _ _ (by simp)).trans (heap_alloc_new' W _)
  have hb : ((W.alloc (.cells #[.int .u64 s, .int .u64 o, .int .u64 l, .int .u64 r] 133)).alloc (.cells #[.int .u64 s', .int .u64 o', .int .u64 l', .int .u64 r'] 133)).heap[W.heap.size + 1]? = some (.cells #[.int .u64 s', .int .u64 o', .int .u64 l', .int .u64 r'] 133 (0, 0)) := by
    have := heap_alloc_new' (W.alloc (.cells #[.int .u64 s, .int .u64 o, .int .u64 l, .int .u64 r] 133)) (.cells #[.int .u64 s', .int .u64 o', .int .u64 l', .int .u64 r'] 133)
    rwa [World.size_alloc] at this
  obtain ⟨V, hV⟩ : ∃ V, (W.alloc (.cells #[.int .u64 s, .int .u64 o, .int .u64 l, .int .u64 r] 133)).alloc (.cells #[.int .u64 s', .int .u64 o', .int .u64 l', .int .u64 r'] 133) = V := ⟨_, rfl⟩
  rw [hV] at ha hb
  obtain ⟨a0, a1, a2, a3⟩ := four_cells ha
  obtain ⟨b0, b1, b2, b3⟩ := four_cells hb
  clear ha hb ec
  go_enter Tryz.func100, Tryz.ntmps100
  go_wp2_with (first | (go_at_call 101; (with_reducible refine (hc _).mono ?_); rintro e w1 ⟨rfl, q, os, rfl⟩))
  go_ret
  refine ⟨rfl, q, #[.cells #[.int .u64 s, .int .u64 o, .int .u64 l, .int .u64 r] 133, .cells #[.int .u64 s', .int .u64 o', .int .u64 l', .int .u64 r'] 133] ++ os, ?_⟩
  rw [← hV]
  simp only [Go.Sort.alloc_eq_grow, Go.Sort.grow_grow]
  rw [← Go.Sort.grow_grow, ← Go.Sort.grow_grow]
  rfl
section
variable {w w' : World} {g k : Nat} {nds : List Nd}
theorem put_all {F c : Array Value} (h : c.size = F.size) : Go.Sort.putCells id 0 F c = F := by
  unfold Go.Sort.putCells
  apply Array.ext
  · simpa using h
  · intro i h1 h2
    simp only [Array.getElem_mapIdx, Nat.zero_add, Nat.sub_zero, Nat.zero_le, true_and, id]
    rw [if_pos h2, getElem!_pos _ i h2]
set_option maxHeartbeats 1000000 in
theorem sort_any (h : NodesAt w g nds) (hl : nds.length ≤ 1000000) (cap : Nat) :
    Calls Tryz.prog 99 #[.slice (some ⟨g, 0, none⟩) nds.length cap, .func (.func 100) #[] #[]] w fun e w' => e = .returned (.tuple #[]) ∧ ∃ nd', NodesAt w' g nd' ∧ nd'.Perm nds ∧ nd'.Pairwise (fun x y => ¬ ltK y.s y.o x.s x.o) ∧ w.grownBy w' (some g) := by
  have eg : ∀ args w, (callFunc 100 args).run Tryz.prog w = .ok (.enter 100 args) w := enters_of Tryz.func100 (by kernel_rfl) rfl
  have hH : Go.Sort.HoldsK Nd.row 4 w g 0 nds.toArray := by
    unfold Go.Sort.HoldsK
    rw [flatK_cells]
    intro j hj
    rw [Nat.zero_add]
    refine ⟨?_, h.frozen j⟩
    unfold World.cell?
    rw [show w.heap[g]? = _ from h]
    simp only [Option.isSome_none, Bool.false_eq_true, if_false, id]
    rw [getElem!_pos _ j hj, Array.getElem?_eq_getElem hj]
  have hcmp : Go.Proofs.CmpLays Tryz.prog 100 #[] Nd.row 4 cfN g 0 nds.toArray.size w := fun m os dk hs x y => shape1_any x y _
  have hcon := Go.Proofs.AnyQ.slices_SortFunc sortNode 4 Tryz.isAgg133 Tryz.sizeOf133 Nd.row (fun _ => rfl) (fun x v hv => by simp [Nd.row] at hv; rcases hv with rfl | rfl | rfl | rfl <;> rfl) cfN swo_cfN 100 #[] g 0 cap nds.toArray w eg hcmp hH h.lt (by simp; omega)
  have hcon2 : Calls Tryz.prog 99 #[.slice (some ⟨g, 0, none⟩) nds.length cap, .func (.func 100) #[] #[]] w _ := hcon
  refine hcon2.mono ?_
  rintro e w' ⟨rfl, d', n, os, hp, hs, rfl⟩
  obtain ⟨p1, p2, p3⟩ := hp
  have hsz : d'.size = nds.length := by simpa using p1
  have hb : (Go.Proofs.sortWorldK Nd.row 4 w g 0 n d' os).heap[g]? = some (.cells (cellsN d'.toList).toArray 133 (0, 0)) := by
    show ((w.heap.modify g (Go.Sort.onCells (Go.Sort.putCells id 0 (Go.Sort.flatK Nd.row 4 d')))) ++ os)[g]? = _
    rw [Array.getElem?_append_left (by simpa using h.lt), Array.getElem?_modify, if_pos rfl, show w.heap[g]? = _ from h]
    simp only [Option.map_some, Go.Sort.onCells]
    rw [put_all (by simp [cellsN_len, hsz])]
    have := flatK_cells d'.toList
    simp only [Array.toArray_toList] at this
    rw [this]
  refine ⟨rfl, d'.toList, hb, ?_, ?_, ?_⟩
  · have h3 : (d'.extract 0 nds.toArray.size).toList.Perm (nds.toArray.extract 0 nds.toArray.size).toList := p3
    have e1 : d'.extract 0 nds.toArray.size = d' := by rw [← p1]; exact Array.extract_size
    rw [e1] at h3
    simpa using h3
  · rw [List.pairwise_iff_getElem]
    intro i j hi hj hij
    have h3 := hs i j (Nat.zero_le _) hij (by simp at hj ⊢; omega)
    have hi' : i < d'.size := by simpa using hi
    have hj' : j < d'.size := by simpa using hj
    rw [ltOf_cfN, getElem!_pos _ j hj', getElem!_pos _ i hi'] at h3
    have h4 := of_decide_eq_false h3
    simpa using h4
  · refine ⟨rfl, rfl, rfl, ?_, fun i hi hne => ?_⟩
    · show w.heap.size ≤ ((w.heap.modify g _) ++ os).size
      simp
    · show ((w.heap.modify g (Go.Sort.onCells (Go.Sort.putCells id 0 (Go.Sort.flatK Nd.row 4 d')))) ++ os)[i]? = _
      rw [Array.getElem?_append_left (by simpa using hi), Array.getElem?_modify, if_neg (fun e => hne (by rw [e]))]
end
end Go.Proofs.YtoamlkljfmgomaaGreat

/-
  A tree's right edge, and how the next block comes in there, as plain mathematics.
  No condition.
-/
namespace Go.Proofs.YtoamlkljfmgomaaGreat
open Go.RowKit
set_option linter.unusedVariables false
set_option linter.unusedSimpArgs false

/-- From link a down the right sons es to link b, which is left open; l: all blocks but those below b. -/
def Spine (g : Nat → Nat) : Nat → List Nat → Nat → List Nat → Prop
  | a, [], b, l => a = b ∧ l = []
  | a, e :: es, b, l => g a = e ∧ e ≠ 0 ∧ ∃ A r, l = A ++ e :: r ∧ TreeOf g rkN (g (e + 8)) A ∧ (∀ x, x ∈ A → rkN x < rkN e) ∧ (∀ x, x ∈ r → rkN x < rkN e) ∧ Spine g (e + 16) es b r
section
variable {g g' : Nat → Nat} {F : List Nat}
theorem Spine.close : ∀ {es : List Nat} {a b : Nat} {l m : List Nat}, Spine g a es b l → TreeOf g rkN (g b) m → (∀ y, y ∈ m → ∀ e, e ∈ es → rkN y < rkN e) → TreeOf g rkN (g a) (l ++ m)
  | [], a, b, l, m, h, ht, _ => by obtain ⟨rfl, rfl⟩ := h; simpa using ht
  | e :: es, a, b, l, m, h, ht, hm => by
    obtain ⟨h1, h0, A, r, rfl, tA, hA, hr, hs⟩ := h
    have ih := Spine.close hs ht fun y hy e' he' => hm y hy e' (by simp [he'])
    rw [h1]
    have := TreeOf.node (L := A) (R := r ++ m) h0 hA (fun x hx => by
      rcases List.mem_append.1 hx with hx | hx
      · exact hr x hx
      · exact hm x hx e (by simp)) tA ih
    simpa using this
theorem Spine.split : ∀ {es fs : List Nat} {a b : Nat} {l : List Nat}, Spine g a (es ++ fs) b l → ∃ c l1 l2, Spine g a es c l1 ∧ Spine g c fs b l2 ∧ l = l1 ++ l2
  | [], fs, a, b, l, h => ⟨a, [], l, ⟨rfl, rfl⟩, h, rfl⟩
  | e :: es, fs, a, b, l, h => by
    obtain ⟨h1, h0, A, r, rfl, tA, hA, hr, hs⟩ := h
    obtain ⟨c, l1, l2, k1, k2, rfl⟩ := Spine.split hs
    refine ⟨c, A ++ e :: l1, l2, ⟨h1, h0, A, l1, rfl, tA, hA, fun x hx => hr x (by simp [hx]), k1⟩, k2, by simp⟩
theorem Spine.snoc : ∀ {es : List Nat} {a b n : Nat} {l A : List Nat}, Spine g a es b l → g b = n → n ≠ 0 → TreeOf g rkN (g (n + 8)) A → (∀ x, x ∈ A → rkN x < rkN n) → (∀ y, y ∈ A ++ [n] → ∀ e, e ∈ es → rkN y < rkN e) → Spine g a (es ++ [n]) (n + 16) (l ++ (A ++ [n]))
  | [], a, b, n, l, A, h, hb, h0, tA, hA, _ => by
    obtain ⟨rfl, rfl⟩ := h
    exact ⟨hb, h0, A, [], by simp, tA, hA, by simp, rfl, rfl⟩
  | e :: es, a, b, n, l, A, h, hb, h0, tA, hA, hm => by
    obtain ⟨h1, h0', A', r, rfl, tA', hA', hr, hs⟩ := h
    refine ⟨h1, h0', A', r ++ (A ++ [n]), by simp, tA', hA', fun x hx => ?_, Spine.snoc hs hb h0 tA hA fun y hy e' he' => hm y hy e' (by simp [he'])⟩
    rcases List.mem_append.1 hx with hx | hx
    · exact hr x hx
    · exact hm x hx e (by simp)
/-- where the open link is -/
theorem Spine.link : ∀ {es : List Nat} {a b : Nat} {l : List Nat}, Spine g a es b l → (es = [] ∧ b = a) ∨ ∃ e, es.getLast? = some e ∧ b = e + 16
  | [], a, b, l, h => .inl ⟨rfl, h.1.symm⟩
  | [e], a, b, l, h => by
    obtain ⟨_, _, A, r, _, _, _, _, hs⟩ := h
    exact .inr ⟨e, rfl, hs.1.symm⟩
  | e :: e' :: es, a, b, l, h => by
    obtain ⟨_, _, A, r, _, _, _, _, hs⟩ := h
    rcases hs.link with h1 | ⟨x, h1, h2⟩
    · exact absurd h1.1 (by simp)
    · exact .inr ⟨x, by simpa using h1, h2⟩
theorem Spine.sub : ∀ {es : List Nat} {a b : Nat} {l : List Nat}, Spine g a es b l → ∀ e, e ∈ es → e ∈ l
  | [], a, b, l, h, e, he => by simp at he
  | e :: es, a, b, l, h, x, hx => by
    obtain ⟨_, _, A, r, rfl, _, _, _, hs⟩ := h
    rcases List.mem_cons.1 hx with rfl | hx
    · simp
    · have := hs.sub x hx; simp [this]
/-- what turns elsewhere, and at the open link -/
theorem Spine.frame : ∀ {es : List Nat} {a b : Nat} {l : List Nat}, Spine g a es b l → (a ≠ b → g' a = g a) → (∀ x, x ∈ l → g' (x + 8) = g (x + 8) ∧ (x + 16 ≠ b → g' (x + 16) = g (x + 16))) → (∀ x, x ∈ l → x + 8 ≠ b ∧ a ≠ x + 16) → l.Nodup → (∀ x y, x ∈ l → y ∈ l → x ≠ y → x + 24 ≤ y ∨ y + 24 ≤ x) → Spine g' a es b l
  | [], a, b, l, h, _, _, _, _, _ => h
  | e :: es, a, b, l, h, ha, hl, hb, hn, hf => by
    have hlk := h.link
    obtain ⟨h1, h0, A, r, rfl, tA, hA, hr, hs⟩ := h
    obtain ⟨n1, n2, n3⟩ := List.nodup_append.1 hn
    have n4 := List.nodup_cons.1 n2
    have hab : a ≠ b := by
      rcases hlk with h2 | ⟨x, h2, h3⟩
      · exact absurd h2.1 (by simp)
      · have hx := Spine.sub (g := g) (a := a) (b := b) (l := A ++ e :: r) (es := e :: es) ⟨h1, h0, A, r, rfl, tA, hA, hr, hs⟩ x (List.mem_of_getLast? h2)
        have := (hb x hx).2
        omega
    refine ⟨(ha hab).trans h1, h0, A, r, rfl, ?_, hA, hr, ?_⟩
    · rw [(hl e (by simp)).1]
      refine tA.frame fun x hx => ⟨(hl x (by simp [hx])).1, (hl x (by simp [hx])).2 fun e2 => ?_⟩
      rcases hlk with h2 | ⟨y, h2, h3⟩
      · exact absurd h2.1 (by simp)
      · have hy : y ∈ e :: r := by
          have := List.mem_of_getLast? h2
          rcases List.mem_cons.1 this with rfl | hy
          · simp
          · have := hs.sub y hy; simp [this]
        have : x = y := by omega
        exact n3 x hx y hy this
    · refine Spine.frame hs (fun e2 => (hl e (by simp)).2 e2) (fun x hx => hl x (by simp [hx])) (fun x hx => ⟨(hb x (by simp [hx])).1, ?_⟩) n4.2 (fun x y hx hy => hf x y (by simp [hx]) (by simp [hy]))
      have hne : e ≠ x := fun e2 => n4.1 (e2 ▸ hx)
      omega
/-- where a popped part's root is told: the first one of those that have been popped, or nobody -/
def popL (E : List Nat) (k : Nat) : Nat := E.getD k 0
/-- the link at which the next block comes in -/
def lkE (E : List Nat) (k : Nat) : Nat := if k = 0 then 32 else E.getD (k - 1) 0 + 16
theorem spine_pop {E l : List Nat} {b n k : Nat} (hF : FreeL F) (h : Spine g 32 E b l) (hb : g b = 0) (hl : ∀ x, x ∈ l → x ∈ F) (hn : n ∈ F) (hnl : n ∉ l) (hnd : l.Nodup) (hk : k ≤ E.length)
    (hp : ∀ j, k ≤ j → j < E.length → rkN (E.getD j 0) < rkN n) (hs : k = 0 ∨ rkN n < rkN (E.getD (k - 1) 0)) (h16 : g (n + 16) = 0)
    (hg : ∀ q, q ≠ n + 8 → q ≠ lkE E k → g' q = g q) (hg8 : g' (n + 8) = popL E k) (hgl : g' (lkE E k) = n) : Spine g' 32 (E.take k ++ [n]) (n + 16) (l ++ [n]) ∧ g' (n + 16) = 0 := by
  have hn0 : n ≠ 0 := by have := hF.on n hn; omega
  have hE : E.take k ++ E.drop k = E := List.take_append_drop k E
  rw [← hE] at h
  obtain ⟨c, l1, l2, s1, s2, rfl⟩ := h.split
  have hc : c = lkE E k := by
    unfold lkE
    rcases s1.link with ⟨h1, h2⟩ | ⟨e, h1, h2⟩
    · have : k = 0 := by
        have := congrArg List.length h1
        simp at this
        rcases this with h3 | h3
        · exact h3
        · rw [h3] at hk; simp at hk; exact hk
      rw [if_pos this, h2]
    · have hk0 : k ≠ 0 := by rintro rfl; simp at h1
      rw [if_neg hk0, h2]
      congr 1
      rw [List.getLast?_eq_getElem?, List.length_take, Nat.min_eq_left hk, List.getElem?_take, if_pos (by omega)] at h1
      rw [List.getD_eq_getElem?_getD, h1]; rfl
  rw [← hc] at hg hgl
  have far : ∀ x y, x ∈ l1 ++ l2 → y ∈ l1 ++ l2 → x ≠ y → x + 24 ≤ y ∨ y + 24 ≤ x := fun x y hx hy hne => by have := hF.far (hl x hx) (hl y hy) hne; omega
  have farn : ∀ x, x ∈ l1 ++ l2 → x + 24 ≤ n ∨ n + 24 ≤ x := fun x hx => by have := hF.far (hl x hx) hn (fun e => hnl (e ▸ hx)); omega
  have c32 : ∀ x, x ∈ F → x + 8 ≠ 32 ∧ x + 16 ≠ 32 := fun x hx => by have := hF.on x hx; omega
  have hcl : c = 32 ∨ ∃ e, e ∈ l1 ∧ c = e + 16 := by
    rcases s1.link with ⟨h1, h2⟩ | ⟨e, h1, h2⟩
    · exact .inl h2
    · exact .inr ⟨e, s1.sub e (List.mem_of_getLast? h1), h2⟩
  have hcn : c ≠ n + 8 ∧ c ≠ n + 16 := by
    rcases hcl with e | ⟨y, hy, e⟩
    · have := c32 n hn; omega
    · have := farn y (by simp [hy]); omega
  obtain ⟨nd1, nd2, nd3⟩ := List.nodup_append.1 hnd
  have hc2 : ∀ x, x ∈ l2 → x + 8 ≠ c ∧ x + 16 ≠ c := fun x hx => by
    rcases hcl with e | ⟨y, hy, e⟩
    · have := c32 x (hl x (by simp [hx])); omega
    · have := far x y (by simp [hx]) (by simp [hy]) (fun e2 => nd3 y hy x hx e2.symm)
      omega
  have t2 : TreeOf g rkN (g c) l2 := by
    have := s2.close (m := []) (by rw [hb]; exact TreeOf.nil) (by simp)
    simpa using this
  have hroot : g c = popL E k := by
    unfold popL
    cases hd : E.drop k with
    | nil =>
      rw [hd] at s2
      have hkE : k = E.length := by
        have := congrArg List.length hd
        simp at this
        omega
      rw [s2.1, hb, hkE, List.getD_eq_getElem?_getD, List.getElem?_eq_none (Nat.le_refl _)]; rfl
    | cons e es =>
      rw [hd] at s2
      have h3 := List.getElem?_drop (xs := E) (i := k) (j := 0)
      rw [hd] at h3
      rw [List.getD_eq_getElem?_getD, show E[k]? = some e by simpa using h3.symm]
      exact s2.1
  have t2' : TreeOf g' rkN (g' (n + 8)) l2 := by
    rw [hg8, ← hroot]
    refine t2.frame fun x hx => ?_
    have h3 := farn x (by simp [hx])
    have h4 := hc2 x hx
    exact ⟨hg _ (by omega) h4.1, hg _ (by omega) h4.2⟩
  have hlt : ∀ x, x ∈ l2 → rkN x < rkN n := fun x hx => by
    have h3 := rank_le t2 hx
    rw [hroot] at h3
    unfold popL at h3
    by_cases hkE : k < E.length
    · have := hp k (Nat.le_refl _) hkE; omega
    · have : E.drop k = [] := List.drop_eq_nil_of_le (by omega)
      rw [this] at s2
      rw [s2.2] at hx; simp at hx
  have hgt : ∀ e, e ∈ E.take k → rkN n < rkN e := by
    intro e he
    rcases hs with rfl | hs
    · simp at he
    · -- ranks fall along the edge
      have hfall : ∀ (es : List Nat) (a b : Nat) (l : List Nat), Spine g a es b l → ∀ e, e ∈ es → ∀ x, es.getLast? = some x → rkN x ≤ rkN e := by
        intro es
        induction es with
        | nil => intro a b l _ e he; simp at he
        | cons y es ih =>
          intro a b l hsp e he x hx
          obtain ⟨_, _, A, r, _, _, _, hr, hs'⟩ := hsp
          cases es with
          | nil =>
            have h1 : e = y := by simpa using he
            have h2 : y = x := by simpa using hx
            rw [h1, h2]; exact Nat.le_refl _
          | cons y' es =>
            have hx' : (y' :: es).getLast? = some x := by simpa using hx
            rcases List.mem_cons.1 he with rfl | he
            · exact Nat.le_of_lt (hr x (hs'.sub x (List.mem_of_getLast? hx')))
            · exact ih _ _ _ hs' e he x hx'
      have hk0 : k ≠ 0 := by rintro rfl; simp at he
      have hx : (E.take k).getLast? = some (E.getD (k - 1) 0) := by
        rw [List.getLast?_eq_getElem?, List.length_take, Nat.min_eq_left hk, List.getElem?_take, if_pos (by omega), List.getD_eq_getElem?_getD, List.getElem?_eq_getElem (by omega)]; rfl
      have := hfall _ _ _ _ s1 e he _ hx
      omega
  have s1' : Spine g' 32 (E.take k) c l1 := by
    refine s1.frame (fun e => hg 32 (by have := c32 n hn; omega) e) (fun x hx => ?_) (fun x hx => ?_) nd1 (fun x y hx hy => far x y (by simp [hx]) (by simp [hy]))
    · have h3 := farn x (by simp [hx])
      refine ⟨hg _ (by omega) ?_, fun e => hg _ (by omega) e⟩
      rcases hcl with e | ⟨y, hy, e⟩
      · have := c32 x (hl x (by simp [hx])); omega
      · by_cases hxy : x = y
        · omega
        · have := far x y (by simp [hx]) (by simp [hy]) hxy; omega
    · have h4 := c32 x (hl x (by simp [hx]))
      refine ⟨?_, by omega⟩
      rcases hcl with e | ⟨y, hy, e⟩
      · omega
      · by_cases hxy : x = y
        · omega
        · have := far x y (by simp [hx]) (by simp [hy]) hxy; omega
  refine ⟨?_, by rw [hg _ (by omega) (by omega), h16]⟩
  have := s1'.snoc hgl hn0 t2' hlt fun y hy e he => by
    rcases List.mem_append.1 hy with hy | hy
    · have h5 := hlt y hy; have h6 := hgt e he; omega
    · have : y = n := by simpa using hy
      rw [this]; exact hgt e he
  simpa using this
end
end Go.Proofs.YtoamlkljfmgomaaGreat
