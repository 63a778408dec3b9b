/-
  A tree's right edge, and how the next block comes in there, as plain mathematics.
  No condition.
-/
import Derived.Test.YthhboidjibdahaaGreatTreeO
namespace Go.Proofs.YthhboidjibdahaaGreat
open Go.RowKit
set_option linter.unusedVariables false
set_option linter.unusedSimpArgs false

/-- From link a down the right sons es to link b, which is left open; l: all blocks but those below b. -/
def Spine (g : Nat → Nat) : Nat → List Nat → Nat → List Nat → Prop
  | a, [], b, l => a = b ∧ l = []
  | a, e :: es, b, l => g a = e ∧ e ≠ 0 ∧ ∃ A r, l = A ++ e :: r ∧ TreeOf g rkN (g (e + 8)) A ∧ (∀ x, x ∈ A → rkN x < rkN e) ∧ (∀ x, x ∈ r → rkN x < rkN e) ∧ Spine g (e + 16) es b r
section
variable {g g' : Nat → Nat} {F : List Nat}
theorem Spine.close : ∀ {es : List Nat} {a b : Nat} {l m : List Nat}, Spine g a es b l → TreeOf g rkN (g b) m → (∀ y, y ∈ m → ∀ e, e ∈ es → rkN y < rkN e) → TreeOf g rkN (g a) (l ++ m)
  | [], a, b, l, m, h, ht, _ => by obtain ⟨rfl, rfl⟩ := h; simpa using ht
  | e :: es, a, b, l, m, h, ht, hm => by
    obtain ⟨h1, h0, A, r, rfl, tA, hA, hr, hs⟩ := h
    have ih := Spine.close hs ht fun y hy e' he' => hm y hy e' (by simp [he'])
    rw [h1]
    have := TreeOf.node (L := A) (R := r ++ m) h0 hA (fun x hx => by
      rcases List.mem_append.1 hx with hx | hx
      · exact hr x hx
      · exact hm x hx e (by simp)) tA ih
    simpa using this
theorem Spine.split : ∀ {es fs : List Nat} {a b : Nat} {l : List Nat}, Spine g a (es ++ fs) b l → ∃ c l1 l2, Spine g a es c l1 ∧ Spine g c fs b l2 ∧ l = l1 ++ l2
  | [], fs, a, b, l, h => ⟨a, [], l, ⟨rfl, rfl⟩, h, rfl⟩
  | e :: es, fs, a, b, l, h => by
    obtain ⟨h1, h0, A, r, rfl, tA, hA, hr, hs⟩ := h
    obtain ⟨c, l1, l2, k1, k2, rfl⟩ := Spine.split hs
    refine ⟨c, A ++ e :: l1, l2, ⟨h1, h0, A, l1, rfl, tA, hA, fun x hx => hr x (by simp [hx]), k1⟩, k2, by simp⟩
theorem Spine.snoc : ∀ {es : List Nat} {a b n : Nat} {l A : List Nat}, Spine g a es b l → g b = n → n ≠ 0 → TreeOf g rkN (g (n + 8)) A → (∀ x, x ∈ A → rkN x < rkN n) → (∀ y, y ∈ A ++ [n] → ∀ e, e ∈ es → rkN y < rkN e) → Spine g a (es ++ [n]) (n + 16) (l ++ (A ++ [n]))
  | [], a, b, n, l, A, h, hb, h0, tA, hA, _ => by
    obtain ⟨rfl, rfl⟩ := h
    exact ⟨hb, h0, A, [], by simp, tA, hA, by simp, rfl, rfl⟩
  | e :: es, a, b, n, l, A, h, hb, h0, tA, hA, hm => by
    obtain ⟨h1, h0', A', r, rfl, tA', hA', hr, hs⟩ := h
    refine ⟨h1, h0', A', r ++ (A ++ [n]), by simp, tA', hA', fun x hx => ?_, Spine.snoc hs hb h0 tA hA fun y hy e' he' => hm y hy e' (by simp [he'])⟩
    rcases List.mem_append.1 hx with hx | hx
    · exact hr x hx
    · exact hm x hx e (by simp)
/-- where the open link is -/
theorem Spine.link : ∀ {es : List Nat} {a b : Nat} {l : List Nat}, Spine g a es b l → (es = [] ∧ b = a) ∨ ∃ e, es.getLast? = some e ∧ b = e + 16
  | [], a, b, l, h => .inl ⟨rfl, h.1.symm⟩
  | [e], a, b, l, h => by
    obtain ⟨_, _, A, r, _, _, _, _, hs⟩ := h
    exact .inr ⟨e, rfl, hs.1.symm⟩
  | e :: e' :: es, a, b, l, h => by
    obtain ⟨_, _, A, r, _, _, _, _, hs⟩ := h
    rcases hs.link with h1 | ⟨x, h1, h2⟩
    · exact absurd h1.1 (by simp)
    · exact .inr ⟨x, by simpa using h1, h2⟩
theorem Spine.sub : ∀ {es : List Nat} {a b : Nat} {l : List Nat}, Spine g a es b l → ∀ e, e ∈ es → e ∈ l
  | [], a, b, l, h, e, he => by simp at he
  | e :: es, a, b, l, h, x, hx => by
    obtain ⟨_, _, A, r, rfl, _, _, _, hs⟩ := h
    rcases List.mem_cons.1 hx with rfl | hx
    · simp
    · have := hs.sub x hx; simp [this]
/-- what turns elsewhere, and at the open link -/
theorem Spine.frame : ∀ {es : List Nat} {a b : Nat} {l : List Nat}, Spine g a es b l → (a ≠ b → g' a = g a) → (∀ x, x ∈ l → g' (x + 8) = g (x + 8) ∧ (x + 16 ≠ b → g' (x + 16) = g (x + 16))) → (∀ x, x ∈ l → x + 8 ≠ b ∧ a ≠ x + 16) → l.Nodup → (∀ x y, x ∈ l → y ∈ l → x ≠ y → x + 24 ≤ y ∨ y + 24 ≤ x) → Spine g' a es b l
  | [], a, b, l, h, _, _, _, _, _ => h
  | e :: es, a, b, l, h, ha, hl, hb, hn, hf => by
    have hlk := h.link
    obtain ⟨h1, h0, A, r, rfl, tA, hA, hr, hs⟩ := h
    obtain ⟨n1, n2, n3⟩ := List.nodup_append.1 hn
    have n4 := List.nodup_cons.1 n2
    have hab : a ≠ b := by
      rcases hlk with h2 | ⟨x, h2, h3⟩
      · exact absurd h2.1 (by simp)
      · have hx := Spine.sub (g := g) (a := a) (b := b) (l := A ++ e :: r) (es := e :: es) ⟨h1, h0, A, r, rfl, tA, hA, hr, hs⟩ x (List.mem_of_getLast? h2)
        have := (hb x hx).2
        omega
    refine ⟨(ha hab).trans h1, h0, A, r, rfl, ?_, hA, hr, ?_⟩
    · rw [(hl e (by simp)).1]
      refine tA.frame fun x hx => ⟨(hl x (by simp [hx])).1, (hl x (by simp [hx])).2 fun e2 => ?_⟩
      rcases hlk with h2 | ⟨y, h2, h3⟩
      · exact absurd h2.1 (by simp)
      · have hy : y ∈ e :: r := by
          have := List.mem_of_getLast? h2
          rcases List.mem_cons.1 this with rfl | hy
          · simp
          · have := hs.sub y hy; simp [this]
        have : x = y := by omega
        exact n3 x hx y hy this
    · refine Spine.frame hs (fun e2 => (hl e (by simp)).2 e2) (fun x hx => hl x (by simp [hx])) (fun x hx => ⟨(hb x (by simp [hx])).1, ?_⟩) n4.2 (fun x y hx hy => hf x y (by simp [hx]) (by simp [hy]))
      have hne : e ≠ x := fun e2 => n4.1 (e2 ▸ hx)
      omega
/-- where a popped part's root is told: the first one of those that have been popped, or nobody -/
def popL (E : List Nat) (k : Nat) : Nat := E.getD k 0
/-- the link at which the next block comes in -/
def lkE (E : List Nat) (k : Nat) : Nat := if k = 0 then 32 else E.getD (k - 1) 0 + 16
theorem spine_pop {E l : List Nat} {b n k : Nat} (hF : FreeL F) (h : Spine g 32 E b l) (hb : g b = 0) (hl : ∀ x, x ∈ l → x ∈ F) (hn : n ∈ F) (hnl : n ∉ l) (hnd : l.Nodup) (hk : k ≤ E.length)
    (hp : ∀ j, k ≤ j → j < E.length → rkN (E.getD j 0) < rkN n) (hs : k = 0 ∨ rkN n < rkN (E.getD (k - 1) 0)) (h16 : g (n + 16) = 0)
    (hg : ∀ q, q ≠ n + 8 → q ≠ lkE E k → g' q = g q) (hg8 : g' (n + 8) = popL E k) (hgl : g' (lkE E k) = n) : Spine g' 32 (E.take k ++ [n]) (n + 16) (l ++ [n]) ∧ g' (n + 16) = 0 := by
  have hn0 : n ≠ 0 := by have := hF.on n hn; omega
  have hE : E.take k ++ E.drop k = E := List.take_append_drop k E
  rw [← hE] at h
  obtain ⟨c, l1, l2, s1, s2, rfl⟩ := h.split
  have hc : c = lkE E k := by
    unfold lkE
    rcases s1.link with ⟨h1, h2⟩ | ⟨e, h1, h2⟩
    · have : k = 0 := by
        have := congrArg List.length h1
        simp at this
        rcases this with h3 | h3
        · exact h3
        · rw [h3] at hk; simp at hk; exact hk
      rw [if_pos this, h2]
    · have hk0 : k ≠ 0 := by rintro rfl; simp at h1
      rw [if_neg hk0, h2]
      congr 1
      rw [List.getLast?_eq_getElem?, List.length_take, Nat.min_eq_left hk, List.getElem?_take, if_pos (by omega)] at h1
      rw [List.getD_eq_getElem?_getD, h1]; rfl
  rw [← hc] at hg hgl
  have far : ∀ x y, x ∈ l1 ++ l2 → y ∈ l1 ++ l2 → x ≠ y → x + 24 ≤ y ∨ y + 24 ≤ x := fun x y hx hy hne => by have := hF.far (hl x hx) (hl y hy) hne; omega
  have farn : ∀ x, x ∈ l1 ++ l2 → x + 24 ≤ n ∨ n + 24 ≤ x := fun x hx => by have := hF.far (hl x hx) hn (fun e => hnl (e ▸ hx)); omega
  have c32 : ∀ x, x ∈ F → x + 8 ≠ 32 ∧ x + 16 ≠ 32 := fun x hx => by have := hF.on x hx; omega
  have hcl : c = 32 ∨ ∃ e, e ∈ l1 ∧ c = e + 16 := by
    rcases s1.link with ⟨h1, h2⟩ | ⟨e, h1, h2⟩
    · exact .inl h2
    · exact .inr ⟨e, s1.sub e (List.mem_of_getLast? h1), h2⟩
  have hcn : c ≠ n + 8 ∧ c ≠ n + 16 := by
    rcases hcl with e | ⟨y, hy, e⟩
    · have := c32 n hn; omega
    · have := farn y (by simp [hy]); omega
  obtain ⟨nd1, nd2, nd3⟩ := List.nodup_append.1 hnd
  have hc2 : ∀ x, x ∈ l2 → x + 8 ≠ c ∧ x + 16 ≠ c := fun x hx => by
    rcases hcl with e | ⟨y, hy, e⟩
    · have := c32 x (hl x (by simp [hx])); omega
    · have := far x y (by simp [hx]) (by simp [hy]) (fun e2 => nd3 y hy x hx e2.symm)
      omega
  have t2 : TreeOf g rkN (g c) l2 := by
    have := s2.close (m := []) (by rw [hb]; exact TreeOf.nil) (by simp)
    simpa using this
  have hroot : g c = popL E k := by
    unfold popL
    cases hd : E.drop k with
    | nil =>
      rw [hd] at s2
      have hkE : k = E.length := by
        have := congrArg List.length hd
        simp at this
        omega
      rw [s2.1, hb, hkE, List.getD_eq_getElem?_getD, List.getElem?_eq_none (Nat.le_refl _)]; rfl
    | cons e es =>
      rw [hd] at s2
      have h3 := List.getElem?_drop (xs := E) (i := k) (j := 0)
      rw [hd] at h3
      rw [List.getD_eq_getElem?_getD, show E[k]? = some e by simpa using h3.symm]
      exact s2.1
  have t2' : TreeOf g' rkN (g' (n + 8)) l2 := by
    rw [hg8, ← hroot]
    refine t2.frame fun x hx => ?_
    have h3 := farn x (by simp [hx])
    have h4 := hc2 x hx
    exact ⟨hg _ (by omega) h4.1, hg _ (by omega) h4.2⟩
  have hlt : ∀ x, x ∈ l2 → rkN x < rkN n := fun x hx => by
    have h3 := rank_le t2 hx
    rw [hroot] at h3
    unfold popL at h3
    by_cases hkE : k < E.length
    · have := hp k (Nat.le_refl _) hkE; omega
    · have : E.drop k = [] := List.drop_eq_nil_of_le (by omega)
      rw [this] at s2
      rw [s2.2] at hx; simp at hx
  have hgt : ∀ e, e ∈ E.take k → rkN n < rkN e := by
    intro e he
    rcases hs with rfl | hs
    · simp at he
    · -- ranks fall along the edge
      have hfall : ∀ (es : List Nat) (a b : Nat) (l : List Nat), Spine g a es b l → ∀ e, e ∈ es → ∀ x, es.getLast? = some x → rkN x ≤ rkN e := by
        intro es
        induction es with
        | nil => intro a b l _ e he; simp at he
        | cons y es ih =>
          intro a b l hsp e he x hx
          obtain ⟨_, _, A, r, _, _, _, hr, hs'⟩ := hsp
          cases es with
          | nil =>
            have h1 : e = y := by simpa using he
            have h2 : y = x := by simpa using hx
            rw [h1, h2]; exact Nat.le_refl _
          | cons y' es =>
            have hx' : (y' :: es).getLast? = some x := by simpa using hx
            rcases List.mem_cons.1 he with rfl | he
            · exact Nat.le_of_lt (hr x (hs'.sub x (List.mem_of_getLast? hx')))
            · exact ih _ _ _ hs' e he x hx'
      have hk0 : k ≠ 0 := by rintro rfl; simp at he
      have hx : (E.take k).getLast? = some (E.getD (k - 1) 0) := by
        rw [List.getLast?_eq_getElem?, List.length_take, Nat.min_eq_left hk, List.getElem?_take, if_pos (by omega), List.getD_eq_getElem?_getD, List.getElem?_eq_getElem (by omega)]; rfl
      have := hfall _ _ _ _ s1 e he _ hx
      omega
  have s1' : Spine g' 32 (E.take k) c l1 := by
    refine s1.frame (fun e => hg 32 (by have := c32 n hn; omega) e) (fun x hx => ?_) (fun x hx => ?_) nd1 (fun x y hx hy => far x y (by simp [hx]) (by simp [hy]))
    · have h3 := farn x (by simp [hx])
      refine ⟨hg _ (by omega) ?_, fun e => hg _ (by omega) e⟩
      rcases hcl with e | ⟨y, hy, e⟩
      · have := c32 x (hl x (by simp [hx])); omega
      · by_cases hxy : x = y
        · omega
        · have := far x y (by simp [hx]) (by simp [hy]) hxy; omega
    · have h4 := c32 x (hl x (by simp [hx]))
      refine ⟨?_, by omega⟩
      rcases hcl with e | ⟨y, hy, e⟩
      · omega
      · by_cases hxy : x = y
        · omega
        · have := far x y (by simp [hx]) (by simp [hy]) hxy; omega
  refine ⟨?_, by rw [hg _ (by omega) (by omega), h16]⟩
  have := s1'.snoc hgl hn0 t2' hlt fun y hy e he => by
    rcases List.mem_append.1 hy with hy | hy
    · have h5 := hlt y hy; have h6 := hgt e he; omega
    · have : y = n := by simpa using hy
      rw [this]; exact hgt e he
  simpa using this
end
end Go.Proofs.YthhboidjibdahaaGreat
