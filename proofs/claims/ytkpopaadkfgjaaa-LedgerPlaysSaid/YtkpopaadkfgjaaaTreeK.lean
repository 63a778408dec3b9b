/-
  Blocks by their keys, as plain mathematics: told in rising turn, and that there is just one such turn.
  No condition.
-/
import Derived.Test.YtkpopaadkfgjaaaTreeM
namespace Go.Proofs.Ytkpopaadkfgjaaa
set_option linter.unusedVariables false
set_option linter.unusedSimpArgs false

/-- a's key is smaller than a size and an offset -/
def keyLt (z : Nat → Nat) (a s o : Nat) : Prop := z a < s ∨ (z a = s ∧ a < o)
instance {z : Nat → Nat} {a s o : Nat} : Decidable (keyLt z a s o) := by unfold keyLt; infer_instance
/-- a's key is smaller than b's -/
def blkLt (z : Nat → Nat) (a b : Nat) : Prop := keyLt z a (z b) b
instance {z : Nat → Nat} {a b : Nat} : Decidable (blkLt z a b) := by unfold blkLt; infer_instance
/-- by their keys, rising -/
def Rising (z : Nat → Nat) (l : List Nat) : Prop := l.Pairwise (blkLt z)
/-- laid among others: ahead of the first one whose key is greater -/
def insK (z : Nat → Nat) (x : Nat) (l : List Nat) : List Nat := l.takeWhile (fun y => decide (¬ blkLt z x y)) ++ x :: l.dropWhile (fun y => decide (¬ blkLt z x y))
/-- all of them, one behind the other laid among those ahead -/
def srtK (z : Nat → Nat) (l : List Nat) : List Nat := l.foldl (fun o x => insK z x o) []

section
variable {z : Nat → Nat} {a b c s o x : Nat} {l k : List Nat}
theorem blkLt.irr : ¬ blkLt z a a := by unfold blkLt keyLt; omega
theorem blkLt.trans (h : blkLt z a b) (k : blkLt z b c) : blkLt z a c := by unfold blkLt keyLt at *; omega
theorem blkLt.anti (h : blkLt z a b) : ¬ blkLt z b a := by unfold blkLt keyLt at *; omega
theorem blkLt.total (h : ¬ blkLt z a b) (hn : a ≠ b) : blkLt z b a := by unfold blkLt keyLt at *; omega
theorem blkLt.ne (h : blkLt z a b) : a ≠ b := by rintro rfl; exact blkLt.irr h
theorem Rising.nodup (h : Rising z l) : l.Nodup := List.Pairwise.imp (fun h => h.ne) h
theorem rising_ext : ∀ {l k : List Nat}, Rising z l → Rising z k → (∀ x, x ∈ l ↔ x ∈ k) → l = k
  | [], [], _, _, _ => rfl
  | [], b :: k, _, _, h => by have := (h b).2 (by simp); simp at this
  | a :: l, [], _, _, h => by have := (h a).1 (by simp); simp at this
  | a :: l, b :: k, hl, hk, h => by
    have hl' := List.pairwise_cons.1 hl
    have hk' := List.pairwise_cons.1 hk
    have hab : a = b := by
      rcases List.mem_cons.1 ((h a).1 (by simp)) with e | e
      · exact e
      · rcases List.mem_cons.1 ((h b).2 (by simp)) with e' | e'
        · exact e'.symm
        · exact absurd (hk'.1 a e) (hl'.1 b e').anti
    subst hab
    rw [rising_ext hl'.2 hk'.2]
    intro x
    have hx := h x
    simp only [List.mem_cons] at hx
    constructor
    · intro hm
      rcases hx.1 (Or.inr hm) with e | e
      · subst e; exact absurd (hl'.1 x hm) blkLt.irr
      · exact e
    · intro hm
      rcases hx.2 (Or.inr hm) with e | e
      · subst e; exact absurd (hk'.1 x hm) blkLt.irr
      · exact e
theorem insK_perm : (insK z x l).Perm (x :: l) := by
  unfold insK
  refine List.perm_middle.trans ?_
  rw [List.takeWhile_append_dropWhile]
theorem insK_mem : a ∈ insK z x l ↔ a = x ∨ a ∈ l := by rw [insK_perm.mem_iff]; simp
theorem insK_length : (insK z x l).length = l.length + 1 := by rw [insK_perm.length_eq]; rfl
theorem insK_cons : insK z x (a :: l) = if blkLt z x a then x :: a :: l else a :: insK z x l := by
  unfold insK
  by_cases h : blkLt z x a <;> simp [List.takeWhile_cons, List.dropWhile_cons, h]
theorem insK_rising : ∀ {l : List Nat}, Rising z l → x ∉ l → Rising z (insK z x l)
  | [], _, _ => by simp [insK, Rising]
  | a :: l, h, hn => by
    have h' := List.pairwise_cons.1 h
    rw [insK_cons]
    by_cases c : blkLt z x a
    · rw [if_pos c]
      refine List.pairwise_cons.2 ⟨?_, h⟩
      intro y hy
      rcases List.mem_cons.1 hy with e | e
      · subst e; exact c
      · exact c.trans (h'.1 y e)
    · rw [if_neg c]
      refine List.pairwise_cons.2 ⟨?_, insK_rising h'.2 fun hm => hn (by simp [hm])⟩
      intro y hy
      rcases insK_mem.1 hy with e | e
      · subst e; exact blkLt.total c (by intro e; apply hn; simp [e])
      · exact h'.1 y e
theorem srtK_snoc : srtK z (l ++ [x]) = insK z x (srtK z l) := by simp [srtK, List.foldl_append]
theorem srtK_foldl_perm : ∀ {l o : List Nat}, (l.foldl (fun o x => insK z x o) o).Perm (l ++ o)
  | [], o => List.Perm.refl _
  | x :: l, o => by
    simp only [List.foldl_cons, List.cons_append]
    refine (srtK_foldl_perm (l := l)).trans ?_
    refine (List.Perm.append_left l insK_perm).trans ?_
    exact List.perm_middle
theorem srtK_perm : (srtK z l).Perm l := by
  have := srtK_foldl_perm (z := z) (l := l) (o := [])
  simpa [srtK] using this
theorem srtK_mem : a ∈ srtK z l ↔ a ∈ l := srtK_perm.mem_iff
theorem srtK_length : (srtK z l).length = l.length := srtK_perm.length_eq
theorem srtK_rising_go : ∀ {l o : List Nat}, Rising z o → (∀ x, x ∈ l → x ∉ o) → l.Nodup → Rising z (l.foldl (fun o x => insK z x o) o)
  | [], o, h, _, _ => h
  | x :: l, o, h, hn, hd => by
    have hd' := List.nodup_cons.1 hd
    simp only [List.foldl_cons]
    refine srtK_rising_go (insK_rising h (hn x (by simp))) ?_ hd'.2
    intro y hy hm
    rcases insK_mem.1 hm with e | e
    · subst e; exact hd'.1 hy
    · exact hn y (by simp [hy]) e
theorem srtK_rising (h : l.Nodup) : Rising z (srtK z l) := srtK_rising_go (by simp [Rising]) (by simp) h
theorem srtK_ext (h : Rising z k) (hn : l.Nodup) (hm : ∀ x, x ∈ l ↔ x ∈ k) : srtK z l = k :=
  rising_ext (srtK_rising hn) h fun x => by rw [srtK_mem]; exact hm x
theorem srtK_of_perm (h : l.Perm k) (hn : l.Nodup) : srtK z l = srtK z k :=
  srtK_ext (srtK_rising (h.nodup_iff.1 hn)) hn fun x => by rw [srtK_mem]; exact h.mem_iff
theorem srtK_nil : srtK z [] = [] := rfl
/-- the keys of those that stand in the list alone count -/
theorem insK_congr {y : Nat → Nat} (hx : y x = z x) (h : ∀ a, a ∈ l → y a = z a) : insK y x l = insK z x l := by
  induction l with
  | nil => rfl
  | cons a l ih =>
    rw [insK_cons, insK_cons, ih fun b hb => h b (by simp [hb])]
    have : blkLt y x a ↔ blkLt z x a := by unfold blkLt keyLt; rw [hx, h a (by simp)]
    by_cases c : blkLt z x a
    · rw [if_pos c, if_pos (this.2 c)]
    · rw [if_neg c, if_neg fun d => c (this.1 d)]
theorem Rising.congr {y : Nat → Nat} (h : Rising z l) (hy : ∀ a, a ∈ l → y a = z a) : Rising y l := by
  unfold Rising at *
  refine List.Pairwise.imp_of_mem ?_ h
  intro a b ha hb hab
  unfold blkLt keyLt at *
  rw [hy a ha, hy b hb]; exact hab
theorem srtK_congr {y : Nat → Nat} (hn : l.Nodup) (h : ∀ a, a ∈ l → y a = z a) : srtK y l = srtK z l :=
  srtK_ext ((srtK_rising hn).congr fun a ha => h a (srtK_mem.1 ha)) hn fun x => srtK_mem.symm
theorem Rising.filter (h : Rising z l) (p : Nat → Bool) : Rising z (l.filter p) := List.Pairwise.filter _ h
theorem srtK_erase (hn : l.Nodup) : srtK z (l.filter fun a => a ≠ x) = (srtK z l).filter fun a => a ≠ x :=
  srtK_ext ((srtK_rising hn).filter _) (hn.filter _) fun a => by simp only [List.mem_filter, srtK_mem]
/-- the least key that is greater than a size and an offset -/
def aftK (z : Nat → Nat) (s o : Nat) (l : List Nat) : Option Nat := l.find? fun a => decide (¬ keyLt z a s o ∧ (z a ≠ s ∨ a ≠ o))
theorem keyGt_iff : (¬ keyLt z a s o ∧ (z a ≠ s ∨ a ≠ o)) ↔ (s < z a ∨ (z a = s ∧ o < a)) := by unfold keyLt; omega
/-- behind one of them the next one is told -/
theorem aftK_next : ∀ {l : List Nat} {i : Nat}, Rising z l → (h : i < l.length) → aftK z (z l[i]) l[i] l = l[i + 1]?
  | [], i, _, h => absurd h (by simp)
  | a :: l, 0, hr, h => by
    have h' := List.pairwise_cons.1 hr
    simp only [List.getElem_cons_zero, aftK, List.find?_cons, keyGt_iff]
    have : ¬ (z a < z a ∨ z a = z a ∧ a < a) := by omega
    simp only [this, decide_false, List.getElem?_cons_succ]
    cases l with
    | nil => simp
    | cons b l =>
      have hb := h'.1 b (by simp)
      have : (z a < z b ∨ z b = z a ∧ a < b) := by unfold blkLt keyLt at hb; omega
      simp [this, List.find?_cons]
  | a :: l, i + 1, hr, h => by
    have h' := List.pairwise_cons.1 hr
    simp only [List.length_cons] at h
    have hi : i < l.length := by omega
    have ih := aftK_next (i := i) h'.2 hi
    simp only [List.getElem_cons_succ, List.getElem?_cons_succ]
    rw [← ih]
    have hb := h'.1 l[i] (List.getElem_mem hi)
    have : ¬ (¬ keyLt z a (z l[i]) l[i] ∧ (z a ≠ z l[i] ∨ a ≠ l[i])) := by unfold blkLt at hb; exact fun c => c.1 hb
    unfold aftK
    rw [List.find?_cons]
    simp only [this, decide_false]
/-- from nothing on the first one is told -/
theorem aftK_first (h : ∀ a, a ∈ l → 0 < z a ∨ 0 < a) : aftK z 0 0 l = l[0]? := by
  cases l with
  | nil => rfl
  | cons a l =>
    have ha := h a (by simp)
    have : (0 < z a ∨ z a = 0 ∧ 0 < a) := by omega
    simp only [aftK, List.find?_cons, keyGt_iff, this, decide_true, List.getElem?_cons_zero]
/-- laid in at the place where no key ahead is greater, and the one there is -/
theorem insK_at : ∀ {l : List Nat} {n : Nat}, n ≤ l.length → (∀ j, j < n → ¬ blkLt z x (l.getD j 0)) → (n < l.length → blkLt z x (l.getD n 0)) → l.take n ++ x :: l.drop n = insK z x l
  | [], n, hn, _, _ => by simp [insK]
  | a :: l, 0, _, _, h => by
    have h0 : blkLt z x a := by simpa using h (by simp)
    rw [insK_cons, if_pos h0]; rfl
  | a :: l, n + 1, hn, hj, h => by
    have h0 : ¬ blkLt z x a := by simpa using hj 0 (by omega)
    simp only [List.length_cons] at hn h
    rw [insK_cons, if_neg h0, ← insK_at (l := l) (n := n) (by omega) (fun j h1 => by simpa using hj (j + 1) (by omega)) (fun h1 => by simpa using h (by omega))]
    rfl
theorem insK_right : ∀ {l k : List Nat}, (∀ y, y ∈ l → ¬ blkLt z x y) → insK z x (l ++ k) = l ++ insK z x k
  | [], k, _ => rfl
  | a :: l, k, h => by
    rw [List.cons_append, insK_cons, if_neg (h a (by simp)), insK_right fun y hy => h y (by simp [hy])]
    rfl
theorem insK_left : ∀ {l k : List Nat}, blkLt z x a → insK z x (l ++ a :: k) = insK z x l ++ a :: k
  | [], k, h => by rw [List.nil_append, insK_cons, if_pos h]; simp [insK]
  | b :: l, k, h => by
    rw [List.cons_append, insK_cons, insK_cons]
    by_cases c : blkLt z x b
    · rw [if_pos c, if_pos c]; rfl
    · rw [if_neg c, if_neg c, insK_left h]; rfl
theorem Rising.ahead {r : Nat} (h : Rising z (l ++ r :: k)) : (∀ y, y ∈ l → blkLt z y r) ∧ (∀ y, y ∈ k → blkLt z r y) ∧ Rising z l ∧ Rising z k := by
  obtain ⟨h1, h2, h3⟩ := List.pairwise_append.1 h
  have h2' := List.pairwise_cons.1 h2
  exact ⟨fun y hy => h3 y hy r (by simp), h2'.1, h1, h2'.2⟩
/-- one more in a tree's turn: it stands on the side of the root that its key says -/
theorem insK_root {r : Nat} (h : Rising z (l ++ r :: k)) (hx : x ≠ r) : insK z x (l ++ r :: k) = if blkLt z x r then insK z x l ++ r :: k else l ++ r :: insK z x k := by
  by_cases c : blkLt z x r
  · rw [if_pos c]; exact insK_left c
  · rw [if_neg c]
    have c' := blkLt.total c hx
    rw [insK_right fun y hy => ((h.ahead.1 y hy).trans c').anti, insK_cons, if_neg c]
/-- one less -/
theorem filter_root {r : Nat} (h : Rising z (l ++ r :: k)) (hx : x ≠ r) : (l ++ r :: k).filter (fun a => decide (a ≠ x)) = l.filter (fun a => decide (a ≠ x)) ++ r :: k.filter (fun a => decide (a ≠ x)) := by
  rw [List.filter_append, List.filter_cons, if_pos (by simpa using hx.symm)]
theorem filter_not (h : x ∉ l) : l.filter (fun a => decide (a ≠ x)) = l := by
  rw [List.filter_eq_self]
  intro a ha
  have : a ≠ x := by rintro rfl; exact h ha
  simpa using this
theorem filter_top {r : Nat} (h : Rising z (l ++ r :: k)) : (l ++ r :: k).filter (fun a => decide (a ≠ r)) = l ++ k := by
  have hl : r ∉ l := fun hm => blkLt.irr (h.ahead.1 r hm)
  have hk : r ∉ k := fun hm => blkLt.irr (h.ahead.2.1 r hm)
  rw [List.filter_append, List.filter_cons, if_neg (by simp), filter_not hl, filter_not hk]
/-- one taken out at its place -/
theorem pick_perm {n : Nat} (h : n < l.length) : (l[n] :: (l.take n ++ l.drop (n + 1))).Perm l := by
  have e : l.take n ++ l[n] :: l.drop (n + 1) = l := by
    rw [← List.drop_eq_getElem_cons h, List.take_append_drop]
  have := (List.perm_middle (a := l[n]) (l₁ := l.take n) (l₂ := l.drop (n + 1))).symm
  rw [e] at this
  exact this
end
end Go.Proofs.Ytkpopaadkfgjaaa
