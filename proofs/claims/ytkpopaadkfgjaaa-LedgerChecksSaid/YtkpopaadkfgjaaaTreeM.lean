/-
  A tree of blocks as words say it, as plain mathematics: its root and sons, what stays when other words turn, and that there is just one.
  No condition.
-/
import Derived.Test.YtkpopaadkfgjaaaLWord
namespace Go.Proofs.Ytkpopaadkfgjaaa
set_option linter.unusedVariables false
set_option linter.unusedSimpArgs false

/-- The words f say, n sons deep at most, that r is the root of the tree of the blocks l, told in their turn by keys. -/
def TreeN (f rk : Nat → Nat) : Nat → Nat → List Nat → Prop
  | 0, r, l => r = 0 ∧ l = []
  | n + 1, r, l => (r = 0 ∧ l = []) ∨ (r ≠ 0 ∧ ∃ L R, l = L ++ r :: R ∧ (∀ x, x ∈ L → rk x < rk r) ∧ (∀ x, x ∈ R → rk x < rk r) ∧ TreeN f rk n (f (r + 8)) L ∧ TreeN f rk n (f (r + 16)) R)
/-- The words f say that r is the root of the tree of the blocks l. -/
def TreeOf (f rk : Nat → Nat) (r : Nat) (l : List Nat) : Prop := TreeN f rk l.length r l

section
variable {f g rk : Nat → Nat} {n m r s : Nat} {l L R : List Nat}
theorem TreeN.up : ∀ {n m r : Nat} {l : List Nat}, TreeN f rk n r l → n ≤ m → TreeN f rk m r l
  | 0, 0, r, l, h, _ => h
  | 0, m + 1, r, l, h, _ => Or.inl h
  | n + 1, 0, r, l, h, hm => by omega
  | n + 1, m + 1, r, l, h, hm => by
    rcases h with h | ⟨h0, L, R, e, hL, hR, tL, tR⟩
    · exact Or.inl h
    · exact Or.inr ⟨h0, L, R, e, hL, hR, tL.up (by omega), tR.up (by omega)⟩
theorem TreeN.down : ∀ {n r : Nat} {l : List Nat} (m : Nat), TreeN f rk n r l → l.length ≤ m → TreeN f rk m r l
  | 0, r, l, m, h, _ => h.up (by omega)
  | n + 1, r, l, m, h, hm => by
    rcases h with h | ⟨h0, L, R, e, hL, hR, tL, tR⟩
    · exact TreeN.up (n := 0) h (by omega)
    · subst e
      simp only [List.length_append, List.length_cons] at hm
      obtain ⟨k, rfl⟩ : ∃ k, m = k + 1 := ⟨m - 1, by omega⟩
      exact Or.inr ⟨h0, L, R, rfl, hL, hR, tL.down k (by omega), tR.down k (by omega)⟩
theorem TreeN.of (h : TreeN f rk n r l) : TreeOf f rk r l := h.down _ (by omega)
theorem TreeOf.nil : TreeOf f rk 0 [] := ⟨rfl, rfl⟩
theorem TreeOf.node (h0 : r ≠ 0) (hL : ∀ x, x ∈ L → rk x < rk r) (hR : ∀ x, x ∈ R → rk x < rk r) (tL : TreeOf f rk (f (r + 8)) L) (tR : TreeOf f rk (f (r + 16)) R) : TreeOf f rk r (L ++ r :: R) :=
  TreeN.of (n := L.length + R.length + 1) (Or.inr ⟨h0, L, R, rfl, hL, hR, TreeN.up tL (by omega), TreeN.up tR (by omega)⟩)
theorem TreeOf.cases (h : TreeOf f rk r l) : (r = 0 ∧ l = []) ∨ (r ≠ 0 ∧ ∃ L R, l = L ++ r :: R ∧ (∀ x, x ∈ L → rk x < rk r) ∧ (∀ x, x ∈ R → rk x < rk r) ∧ TreeOf f rk (f (r + 8)) L ∧ TreeOf f rk (f (r + 16)) R) := by
  unfold TreeOf at h
  generalize hn : l.length = n at h
  cases n with
  | zero => exact Or.inl h
  | succ n =>
    rcases h with h | ⟨h0, L, R, e, hL, hR, tL, tR⟩
    · exact Or.inl h
    · exact Or.inr ⟨h0, L, R, e, hL, hR, tL.of, tR.of⟩
theorem TreeOf.zero (h : TreeOf f rk 0 l) : l = [] := by
  rcases h.cases with h | ⟨h0, _⟩
  · exact h.2
  · exact absurd rfl h0
theorem TreeOf.none (h : TreeOf f rk r []) : r = 0 := by
  rcases h.cases with h | ⟨h0, L, R, e, _⟩
  · exact h.1
  · simp at e
theorem TreeOf.some (h : TreeOf f rk r l) (h0 : r ≠ 0) : ∃ L R, l = L ++ r :: R ∧ (∀ x, x ∈ L → rk x < rk r) ∧ (∀ x, x ∈ R → rk x < rk r) ∧ TreeOf f rk (f (r + 8)) L ∧ TreeOf f rk (f (r + 16)) R := by
  rcases h.cases with h | h
  · exact absurd h.1 h0
  · exact h.2
theorem TreeOf.mem (h : TreeOf f rk r l) (h0 : r ≠ 0) : r ∈ l := by
  obtain ⟨L, R, e, _⟩ := h.some h0
  subst e; simp
theorem TreeN.pos : ∀ {n r : Nat} {l : List Nat}, TreeN f rk n r l → ∀ x, x ∈ l → x ≠ 0
  | 0, r, l, h, x, hx => by rw [h.2] at hx; simp at hx
  | n + 1, r, l, h, x, hx => by
    rcases h with h | ⟨h0, L, R, e, hL, hR, tL, tR⟩
    · rw [h.2] at hx; simp at hx
    · subst e
      simp only [List.mem_append, List.mem_cons] at hx
      rcases hx with hx | hx | hx
      · exact tL.pos x hx
      · rw [hx]; exact h0
      · exact tR.pos x hx
/-- no block of a tree begins at nobody's offset -/
theorem TreeOf.pos (h : TreeOf f rk r l) : ∀ x, x ∈ l → x ≠ 0 := TreeN.pos h
theorem TreeN.frame : ∀ {n r : Nat} {l : List Nat}, TreeN f rk n r l → (∀ x, x ∈ l → g (x + 8) = f (x + 8) ∧ g (x + 16) = f (x + 16)) → TreeN g rk n r l
  | 0, r, l, h, _ => h
  | n + 1, r, l, h, hg => by
    rcases h with h | ⟨h0, L, R, e, hL, hR, tL, tR⟩
    · exact Or.inl h
    · subst e
      obtain ⟨e8, e16⟩ := hg r (by simp)
      refine Or.inr ⟨h0, L, R, rfl, hL, hR, ?_, ?_⟩
      · rw [e8]; exact tL.frame fun x hx => hg x (by simp [hx])
      · rw [e16]; exact tR.frame fun x hx => hg x (by simp [hx])
/-- what words turn that are no sons of the tree, it stays -/
theorem TreeOf.frame (h : TreeOf f rk r l) (hg : ∀ x, x ∈ l → g (x + 8) = f (x + 8) ∧ g (x + 16) = f (x + 16)) : TreeOf g rk r l := TreeN.frame h hg
theorem root_split : ∀ {L L' R R' : List Nat} {r s : Nat}, L ++ r :: R = L' ++ s :: R' → (∀ x, x ∈ L → rk x < rk r) → (∀ x, x ∈ R → rk x < rk r) → (∀ x, x ∈ L' → rk x < rk s) → (∀ x, x ∈ R' → rk x < rk s) → L = L' ∧ r = s ∧ R = R'
  | [], [], R, R', r, s, e, _, _, _, _ => by simp only [List.nil_append, List.cons.injEq] at e; exact ⟨rfl, e.1, e.2⟩
  | [], b :: L', R, R', r, s, e, hL, hR, hL', hR' => by
    simp only [List.nil_append, List.cons_append, List.cons.injEq] at e
    obtain ⟨rfl, rfl⟩ := e
    have h1 := hR s (by simp)
    have h2 := hL' r (by simp)
    omega
  | a :: L, [], R, R', r, s, e, hL, hR, hL', hR' => by
    simp only [List.nil_append, List.cons_append, List.cons.injEq] at e
    obtain ⟨rfl, rfl⟩ := e
    have h1 := hR' r (by simp)
    have h2 := hL a (by simp)
    omega
  | a :: L, b :: L', R, R', r, s, e, hL, hR, hL', hR' => by
    simp only [List.cons_append, List.cons.injEq] at e
    obtain ⟨rfl, e⟩ := e
    obtain ⟨h1, h2, h3⟩ := root_split e (fun x hx => hL x (by simp [hx])) hR (fun x hx => hL' x (by simp [hx])) hR'
    exact ⟨by rw [h1], h2, h3⟩
theorem TreeN.same : ∀ {n m r s : Nat} {l : List Nat}, TreeN f rk n r l → TreeN g rk m s l → r = s ∧ ∀ x, x ∈ l → f (x + 8) = g (x + 8) ∧ f (x + 16) = g (x + 16)
  | 0, m, r, s, l, h, k => by
    obtain ⟨rfl, rfl⟩ := h
    exact ⟨(TreeOf.none k.of).symm, by simp⟩
  | n + 1, m, r, s, l, h, k => by
    rcases h with h | ⟨h0, L, R, e, hL, hR, tL, tR⟩
    · obtain ⟨rfl, rfl⟩ := h
      exact ⟨(TreeOf.none k.of).symm, by simp⟩
    · subst e
      rcases TreeOf.cases k.of with k | ⟨k0, L', R', e, kL, kR, uL, uR⟩
      · have := k.2; simp at this
      · obtain ⟨rfl, rfl, rfl⟩ := root_split e hL hR kL kR
        obtain ⟨a1, a2⟩ := tL.same uL
        obtain ⟨b1, b2⟩ := tR.same uR
        refine ⟨rfl, fun x hx => ?_⟩
        simp only [List.mem_append, List.mem_cons] at hx
        rcases hx with hx | hx | hx
        · exact a2 x hx
        · subst hx; exact ⟨a1, b1⟩
        · exact b2 x hx
/-- of the same blocks there is just one tree -/
theorem TreeOf.same (h : TreeOf f rk r l) (k : TreeOf g rk s l) : r = s ∧ ∀ x, x ∈ l → f (x + 8) = g (x + 8) ∧ f (x + 16) = g (x + 16) := TreeN.same h k
/-- the sons of the tree, of which a list's turn asks the same -/
theorem TreeOf.carry (h : TreeOf f rk r l) (hg : ∀ x, x ∈ l → g (x + 8) = f (x + 8) ∧ g (x + 16) = f (x + 16)) (hs : s = r) : TreeOf g rk s l := by rw [hs]; exact h.frame hg
end
end Go.Proofs.Ytkpopaadkfgjaaa
