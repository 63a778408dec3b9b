/-
  The way through a tree from a key on, with the blocks that come later laid aside, as plain mathematics.
  No condition.
-/
import Derived.Test.YthhboidjibdahaaGreatTreeB
namespace Go.Proofs.YthhboidjibdahaaGreat
open Go.RowKit
set_option linter.unusedVariables false
set_option linter.unusedSimpArgs false

/-- the least of these numbers -/
theorem least_exists {P : Nat → Prop} : ∀ n, P n → ∃ k, P k ∧ ∀ j, P j → k ≤ j := by
  intro n
  induction n using Nat.strongRecOn with
  | ind n ih =>
    intro hn
    by_cases h : ∃ j, j < n ∧ P j
    · obtain ⟨j, hj, hp⟩ := h
      exact ih j hj hp
    · exact ⟨n, hn, fun j hj => Nat.le_of_not_lt fun hlt => h ⟨j, hlt, hj⟩⟩
open Classical in
noncomputable def leastN (P : Nat → Prop) : Nat := if h : ∃ k, P k ∧ ∀ j, P j → k ≤ j then Classical.choose h else 0
theorem leastN_spec {P : Nat → Prop} {n : Nat} (h : P n) : P (leastN P) ∧ leastN P ≤ n := by
  have he := least_exists n h
  unfold leastN
  rw [dif_pos he]
  have := Classical.choose_spec he
  exact ⟨this.1, this.2 n h⟩
/-- the blocks with greater keys -/
def gtL (z : Nat → Nat) (s o : Nat) (l : List Nat) : List Nat := l.filter fun x => decide (ltK s o (z x) x)
section
variable {f z : Nat → Nat} {F S Tl : List Nat} {s o n i : Nat} {stk m r : List Nat}
/-- what is to be told behind: the ones laid aside, each with what is below its right son -/
def Rem (f z : Nat → Nat) (F : List Nat) (s o : Nat) : List Nat → List Nat → Prop
  | [], l => l = []
  | x :: st, l => x ∈ F ∧ ∃ b r, l = x :: (b ++ r) ∧ TreeOf f rkN (f (x + 16)) b ∧ Rising z b ∧ (∀ y, y ∈ b → y ∈ F ∧ ltK s o (z y) y) ∧ Rem f z F s o st r
theorem Rem.len : ∀ {st l : List Nat}, Rem f z F s o st l → st.length ≤ l.length
  | [], l, h => Nat.zero_le _
  | x :: st, l, h => by
    obtain ⟨_, b, r, rfl, _, _, _, hr⟩ := h
    have := hr.len
    simp
    omega
/-- where the way is: i have been told, at n the next tree begins, and these are laid aside -/
def WayAt (f z : Nat → Nat) (F Tl : List Nat) (s o n : Nat) (stk : List Nat) (i : Nat) : Prop :=
  ∃ m r, TreeOf f rkN n m ∧ Rising z m ∧ (∀ x, x ∈ m → x ∈ F) ∧ Tl.drop i = gtL z s o m ++ r ∧ Rem f z F s o stk.reverse r
theorem way_start (ht : TreeOf f rkN n S) (hr : Rising z S) (hF : ∀ x, x ∈ S → x ∈ F) : WayAt f z F (gtL z s o S) s o n [] 0 :=
  ⟨S, [], ht, hr, hF, by simp, rfl⟩
theorem WayAt.mem (h : WayAt f z F Tl s o n stk i) (h0 : n ≠ 0) : n ∈ F := by
  obtain ⟨m, r, ht, _, hF, _⟩ := h
  exact hF n (ht.mem h0)
theorem WayAt.short (h : WayAt f z F Tl s o n stk i) : stk.length ≤ Tl.length := by
  obtain ⟨m, r, _, _, _, h1, h2⟩ := h
  have h3 := h2.len
  have h4 := congrArg List.length h1
  simp at h3 h4
  omega
theorem WayAt.sons (h : WayAt f z F Tl s o n stk i) (h0 : n ≠ 0) : (f (n + 8) = 0 ∨ rkN (f (n + 8)) < rkN n) ∧ (f (n + 16) = 0 ∨ rkN (f (n + 16)) < rkN n) := by
  obtain ⟨m, r, ht, _⟩ := h
  obtain ⟨L, R, rfl, hL, hR, tL, tR⟩ := ht.some h0
  exact ⟨rank_or tL hL, rank_or tR hR⟩
/-- a block with a greater key is laid aside -/
theorem WayAt.aside (h : WayAt f z F Tl s o n stk i) (h0 : n ≠ 0) (hk : ltK s o (z n) n) : WayAt f z F Tl s o (f (n + 8)) (stk ++ [n]) i := by
  obtain ⟨m, r, ht, hr, hF, h1, h2⟩ := h
  obtain ⟨L, R, rfl, hL, hR, tL, tR⟩ := ht.some h0
  obtain ⟨a1, a2, a3, a4⟩ := hr.ahead
  have hg : ∀ y, y ∈ R → ltK s o (z y) y := fun y hy => by
    have := a2 y hy
    unfold blkLt keyLt at this
    unfold ltK at hk ⊢
    omega
  have hR' : gtL z s o R = R := List.filter_eq_self.2 fun y hy => decide_eq_true (hg y hy)
  refine ⟨L, n :: (R ++ r), tL, a3, fun x hx => hF x (by simp [hx]), ?_, ?_⟩
  · rw [h1]
    unfold gtL at hR' ⊢
    rw [List.filter_append, List.filter_cons, if_pos (decide_eq_true hk), hR']
    simp
  · rw [List.reverse_append]
    exact ⟨hF n (by simp), R, r, rfl, tR, a4, fun y hy => ⟨hF y (by simp [hy]), hg y hy⟩, h2⟩
/-- a block with a key that isn't greater is passed -/
theorem WayAt.pass (h : WayAt f z F Tl s o n stk i) (h0 : n ≠ 0) (hk : ¬ ltK s o (z n) n) : WayAt f z F Tl s o (f (n + 16)) stk i := by
  obtain ⟨m, r, ht, hr, hF, h1, h2⟩ := h
  obtain ⟨L, R, rfl, hL, hR, tL, tR⟩ := ht.some h0
  obtain ⟨a1, a2, a3, a4⟩ := hr.ahead
  have hL' : gtL z s o L = [] := List.filter_eq_nil_iff.2 fun y hy => by
    have := a1 y hy
    unfold blkLt keyLt at this
    unfold ltK at hk
    simp only [decide_eq_true_eq]
    unfold ltK
    omega
  refine ⟨R, r, tR, a4, fun x hx => hF x (by simp [hx]), ?_, h2⟩
  rw [h1]
  unfold gtL at hL' ⊢
  rw [List.filter_append, List.filter_cons, if_neg (by simpa using hk), hL', List.nil_append]
/-- the last one laid aside is told -/
theorem WayAt.tell {x : Nat} (h : WayAt f z F Tl s o 0 (stk ++ [x]) i) : i < Tl.length ∧ Tl.getD i 0 = x ∧ x ∈ F ∧ WayAt f z F Tl s o (f (x + 16)) stk (i + 1) := by
  obtain ⟨m, r, ht, hr, hF, h1, h2⟩ := h
  rw [ht.zero] at h1
  rw [List.reverse_append] at h2
  obtain ⟨hx, b, r', rfl, tb, rb, hb, hrem⟩ := h2
  have h3 : Tl.drop i = x :: (b ++ r') := h1
  have hi : i < Tl.length := by
    have := congrArg List.length h3
    simp at this
    omega
  have h4 := List.drop_eq_getElem_cons hi
  rw [h3] at h4
  injection h4 with h5 h6
  refine ⟨hi, by rw [List.getD_eq_getElem?_getD, List.getElem?_eq_getElem hi]; exact h5.symm, hx, b, r', tb, rb, fun y hy => (hb y hy).1, ?_, hrem⟩
  rw [← h6]
  congr 1
  exact (List.filter_eq_self.2 fun y hy => decide_eq_true (hb y hy).2).symm
theorem WayAt.done (h : WayAt f z F Tl s o 0 [] i) (hi : i ≤ Tl.length) : i = Tl.length := by
  obtain ⟨m, r, ht, hr, hF, h1, h2⟩ := h
  rw [ht.zero] at h1
  have h2' : r = [] := h2
  subst h2'
  have := congrArg List.length h1
  simp [gtL] at this
  omega
end
end Go.Proofs.YthhboidjibdahaaGreat
