/-
  Texts of one layer, one behind the other: memory, contracts of the functions, and what follows of them.
  Conditions: as each theorem says.
-/
import Derived.Test.YtcbdbflgfhbikaaGreatLTrc
import Derived.Test.YtcbdbflgfhbikaaGreatLTrb
import Derived.Test.YtcbdbflgfhbikaaGreatLTra
import Derived.Test.YtcbdbflgfhbikaaGreatLTxa
set_option linter.unusedVariables false
set_option linter.unusedSimpArgs false
namespace Go.Proofs.YtcbdbflgfhbikaaGreat
open Go.RowKit
def Spine (g : Nat → Nat) : Nat → List Nat → Nat → List Nat → Prop
  | a, [], b, l => a = b ∧ l = []
  | a, e :: es, b, l => g a = e ∧ e ≠ 0 ∧ ∃ A r, l = A ++ e :: r ∧ TreeOf g rkN (g (e + 8)) A ∧ (∀ x, x ∈ A → rkN x < rkN e) ∧ (∀ x, x ∈ r → rkN x < rkN e) ∧ Spine g (e + 16) es b r
section
variable {g g' : Nat → Nat} {F : List Nat}
theorem Spine.close : ∀ {es : List Nat} {a b : Nat} {l m : List Nat}, Spine g a es b l → TreeOf g rkN (g b) m → (∀ y, y ∈ m → ∀ e, e ∈ es → rkN y < rkN e) → TreeOf g rkN (g a) (l ++ m)
  | [], a, b, l, m, h, ht, _ => by obtain ⟨rfl, rfl⟩ := h; simpa using ht
  | e :: es, a, b, l, m, h, ht, hm => by
    obtain ⟨h1, h0, A, r, rfl, tA, hA, hr, hs⟩ := h
    have ih := Spine.close hs ht fun y hy e' he' => hm y hy e' (by simp [he'])
    rw [h1]
    have := TreeOf.node (L := A) (R := r ++ m) h0 hA (fun x hx => by
      rcases List.mem_append.1 hx with hx | hx
      · exact hr x hx
      · exact hm x hx e (by simp)) tA ih
    simpa using this
theorem Spine.split : ∀ {es fs : List Nat} {a b : Nat} {l : List Nat}, Spine g a (es ++ fs) b l → ∃ c l1 l2, Spine g a es c l1 ∧ Spine g c fs b l2 ∧ l = l1 ++ l2
  | [], fs, a, b, l, h => ⟨a, [], l, ⟨rfl, rfl⟩, h, rfl⟩
  | e :: es, fs, a, b, l, h => by
    obtain ⟨h1, h0, A, r, rfl, tA, hA, hr, hs⟩ := h
    obtain ⟨c, l1, l2, k1, k2, rfl⟩ := Spine.split hs
    refine ⟨c, A ++ e :: l1, l2, ⟨h1, h0, A, l1, rfl, tA, hA, fun x hx => hr x (by simp [hx]), k1⟩, k2, by simp⟩
theorem Spine.snoc : ∀ {es : List Nat} {a b n : Nat} {l A : List Nat}, Spine g a es b l → g b = n → n ≠ 0 → TreeOf g rkN (g (n + 8)) A → (∀ x, x ∈ A → rkN x < rkN n) → (∀ y, y ∈ A ++ [n] → ∀ e, e ∈ es → rkN y < rkN e) → Spine g a (es ++ [n]) (n + 16) (l ++ (A ++ [n]))
  | [], a, b, n, l, A, h, hb, h0, tA, hA, _ => by
    obtain ⟨rfl, rfl⟩ := h
    exact ⟨hb, h0, A, [], by simp, tA, hA, by simp, rfl, rfl⟩
  | e :: es, a, b, n, l, A, h, hb, h0, tA, hA, hm => by
    obtain ⟨h1, h0', A', r, rfl, tA', hA', hr, hs⟩ := h
    refine ⟨h1, h0', A', r ++ (A ++ [n]), by simp, tA', hA', fun x hx => ?_, Spine.snoc hs hb h0 tA hA fun y hy e' he' => hm y hy e' (by simp [he'])⟩
    rcases List.mem_append.1 hx with hx | hx
    · exact hr x hx
    · exact hm x hx e (by simp)
theorem Spine.link : ∀ {es : List Nat} {a b : Nat} {l : List Nat}, Spine g a es b l → (es = [] ∧ b = a) ∨ ∃ e, es.getLast? = some e ∧ b = e + 16
  | [], a, b, l, h => .inl ⟨rfl, h.1.symm⟩
  | [e], a, b, l, h => by
    obtain ⟨_, _, A, r, _, _, _, _, hs⟩ := h
    exact .inr ⟨e, rfl, hs.1.symm⟩
  | e :: e' :: es, a, b, l, h => by
    obtain ⟨_, _, A, r, _, _, _, _, hs⟩ := h
    rcases hs.link with h1 | ⟨x, h1, h2⟩
    · exact absurd h1.1 (by simp)
    · exact .inr ⟨x, by simpa using h1, h2⟩
theorem Spine.sub : ∀ {es : List Nat} {a b : Nat} {l : List Nat}, Spine g a es b l → ∀ e, e ∈ es → e ∈ l
  | [], a, b, l, h, e, he => by simp at he
  | e :: es, a, b, l, h, x, hx => by
    obtain ⟨_, _, A, r, rfl, _, _, _, hs⟩ := h
    rcases List.mem_cons.1 hx with rfl | hx
    · simp
    · have := hs.sub x hx; simp [this]
theorem Spine.frame : ∀ {es : List Nat} {a b : Nat} {l : List Nat}, Spine g a es b l → (a ≠ b → g' a = g a) → (∀ x, x ∈ l → g' (x + 8) = g (x + 8) ∧ (x + 16 ≠ b → g' (x + 16) = g (x + 16))) → (∀ x, x ∈ l → x + 8 ≠ b ∧ a ≠ x + 16) → l.Nodup → (∀ x y, x ∈ l → y ∈ l → x ≠ y → x + 24 ≤ y ∨ y + 24 ≤ x) → Spine g' a es b l
  | [], a, b, l, h, _, _, _, _, _ => h
  | e :: es, a, b, l, h, ha, hl, hb, hn, hf => by
    have hlk := h.link
    obtain ⟨h1, h0, A, r, rfl, tA, hA, hr, hs⟩ := h
    obtain ⟨n1, n2, n3⟩ := List.nodup_append.1 hn
    have n4 := List.nodup_cons.1 n2
    have hab : a ≠ b := by
      rcases hlk with h2 | ⟨x, h2, h3⟩
      · exact absurd h2.1 (by simp)
      · have hx := Spine.sub (g := g) (a := a) (b := b) (l := A ++ e :: r) (es := e :: es) ⟨h1, h0, A, r, rfl, tA, hA, hr, hs⟩ x (List.mem_of_getLast? h2)
        have := (hb x hx).2
        omega
    refine ⟨(ha hab).trans h1, h0, A, r, rfl, ?_, hA, hr, ?_⟩
    · rw [(hl e (by simp)).1]
      refine tA.frame fun x hx => ⟨(hl x (by simp [hx])).1, (hl x (by simp [hx])).2 fun e2 => ?_⟩
      rcases hlk with h2 | ⟨y, h2, h3⟩
      · exact absurd h2.1 (by simp)
      · have hy : y ∈ e :: r := by
          have := List.mem_of_getLast? h2
          rcases List.mem_cons.1 this with rfl | hy
          · simp
          · have := hs.sub y hy; simp [this]
        have : x = y := by omega
        exact n3 x hx y hy this
    · refine Spine.frame hs (fun e2 => (hl e (by simp)).2 e2) (fun x hx => hl x (by simp [hx])) (fun x hx => ⟨(hb x (by simp [hx])).1, ?_⟩) n4.2 (fun x y hx hy => hf x y (by simp [hx]) (by simp [hy]))
      have hne : e ≠ x := fun e2 => n4.1 (e2 ▸ hx)
      omega
def popL (E : List Nat) (k : Nat) : Nat := E.getD k 0
def lkE (E : List Nat) (k : Nat) : Nat := if k = 0 then 32 else E.getD (k - 1) 0 + 16
theorem spine_pop {E l : List Nat} {b n k : Nat} (hF : FreeL F) (h : Spine g 32 E b l) (hb : g b = 0) (hl : ∀ x, x ∈ l → x ∈ F) (hn : n ∈ F) (hnl : n ∉ l) (hnd : l.Nodup) (hk : k ≤ E.length)
    (hp : ∀ j, k ≤ j → j < E.length → rkN (E.getD j 0) < rkN n) (hs : k = 0 ∨ rkN n < rkN (E.getD (k - 1) 0)) (h16 : g (n + 16) = 0)
    (hg : ∀ q, q ≠ n + 8 → q ≠ lkE E k → g' q = g q) (hg8 : g' (n + 8) = popL E k) (hgl : g' (lkE E k) = n) : Spine g' 32 (E.take k ++ [n]) (n + 16) (l ++ [n]) ∧ g' (n + 16) = 0 := by
  have hn0 : n ≠ 0 := by have := hF.on n hn; omega
  have hE : E.take k ++ E.drop k = E := List.take_append_drop k E
  rw [← hE] at h
  obtain ⟨c, l1, l2, s1, s2, rfl⟩ := h.split
  have hc : c = lkE E k := by
    unfold lkE
    rcases s1.link with ⟨h1, h2⟩ | ⟨e, h1, h2⟩
    · have : k = 0 := by
        have := congrArg List.length h1
        simp at this
        rcases this with h3 | h3
        · exact h3
        · rw [h3] at hk; simp at hk; exact hk
      rw [if_pos this, h2]
    · have hk0 : k ≠ 0 := by rintro rfl; simp at h1
      rw [if_neg hk0, h2]
      congr 1
      rw [List.getLast?_eq_getElem?, List.length_take, Nat.min_eq_left hk, List.getElem?_take, if_pos (by omega)] at h1
      rw [List.getD_eq_getElem?_getD, h1]; rfl
  rw [← hc] at hg hgl
  have far : ∀ x y, x ∈ l1 ++ l2 → y ∈ l1 ++ l2 → x ≠ y → x + 24 ≤ y ∨ y + 24 ≤ x := fun x y hx hy hne => by have := hF.far (hl x hx) (hl y hy) hne; omega
  have farn : ∀ x, x ∈ l1 ++ l2 → x + 24 ≤ n ∨ n + 24 ≤ x := fun x hx => by have := hF.far (hl x hx) hn (fun e => hnl (e ▸ hx)); omega
  have c32 : ∀ x, x ∈ F → x + 8 ≠ 32 ∧ x + 16 ≠ 32 := fun x hx => by have := hF.on x hx; omega
  have hcl : c = 32 ∨ ∃ e, e ∈ l1 ∧ c = e + 16 := by
    rcases s1.link with ⟨h1, h2⟩ | ⟨e, h1, h2⟩
    · exact .inl h2
    · exact .inr ⟨e, s1.sub e (List.mem_of_getLast? h1), h2⟩
  have hcn : c ≠ n + 8 ∧ c ≠ n + 16 := by
    rcases hcl with e | ⟨y, hy, e⟩
    · have := c32 n hn; omega
    · have := farn y (by simp [hy]); omega
  obtain ⟨nd1, nd2, nd3⟩ := List.nodup_append.1 hnd
  have hc2 : ∀ x, x ∈ l2 → x + 8 ≠ c ∧ x + 16 ≠ c := fun x hx => by
    rcases hcl with e | ⟨y, hy, e⟩
    · have := c32 x (hl x (by simp [hx])); omega
    · have := far x y (by simp [hx]) (by simp [hy]) (fun e2 => nd3 y hy x hx e2.symm)
      omega
  have t2 : TreeOf g rkN (g c) l2 := by
    have := s2.close (m := []) (by rw [hb]; exact TreeOf.nil) (by simp)
    simpa using this
  have hroot : g c = popL E k := by
    unfold popL
    cases hd : E.drop k with
    | nil =>
      rw [hd] at s2
      have hkE : k = E.length := by
        have := congrArg List.length hd
        simp at this
        omega
      rw [s2.1, hb, hkE, List.getD_eq_getElem?_getD, List.getElem?_eq_none (Nat.le_refl _)]; rfl
    | cons e es =>
      rw [hd] at s2
      have h3 := List.getElem?_drop (xs := E) (i := k) (j := 0)
      rw [hd] at h3
      rw [List.getD_eq_getElem?_getD, show E[k]? = some e by simpa using h3.symm]
      exact s2.1
  have t2' : TreeOf g' rkN (g' (n + 8)) l2 := by
    rw [hg8, ← hroot]
    refine t2.frame fun x hx => ?_
    have h3 := farn x (by simp [hx])
    have h4 := hc2 x hx
    exact ⟨hg _ (by omega) h4.1, hg _ (by omega) h4.2⟩
  have hlt : ∀ x, x ∈ l2 → rkN x < rkN n := fun x hx => by
    have h3 := rank_le t2 hx
    rw [hroot] at h3
    unfold popL at h3
    by_cases hkE : k < E.length
    · have := hp k (Nat.le_refl _) hkE; omega
    · have : E.drop k = [] := List.drop_eq_nil_of_le (by omega)
      rw [this] at s2
      rw [s2.2] at hx; simp at hx
  have hgt : ∀ e, e ∈ E.take k → rkN n < rkN e := by
    intro e he
    rcases hs with rfl | hs
    · simp at he
    · -- ranks fall along the edge
      have hfall : ∀ (es : List Nat) (a b : Nat) (l : List Nat), Spine g a es b l → ∀ e, e ∈ es → ∀ x, es.getLast? = some x → rkN x ≤ rkN e := by
        intro es
        induction es with
        | nil => intro a b l _ e he; simp at he
        | cons y es ih =>
          intro a b l hsp e he x hx
          obtain ⟨_, _, A, r, _, _, _, hr, hs'⟩ := hsp
          cases es with
          | nil =>
            have h1 : e = y := by simpa using he
            have h2 : y = x := by simpa using hx
            rw [h1, h2]; exact Nat.le_refl _
          | cons y' es =>
            have hx' : (y' :: es).getLast? = some x := by simpa using hx
            rcases List.mem_cons.1 he with rfl | he
            · exact Nat.le_of_lt (hr x (hs'.sub x (List.mem_of_getLast? hx')))
            · exact ih _ _ _ hs' e he x hx'
      have hk0 : k ≠ 0 := by rintro rfl; simp at he
      have hx : (E.take k).getLast? = some (E.getD (k - 1) 0) := by
        rw [List.getLast?_eq_getElem?, List.length_take, Nat.min_eq_left hk, List.getElem?_take, if_pos (by omega), List.getD_eq_getElem?_getD, List.getElem?_eq_getElem (by omega)]; rfl
      have := hfall _ _ _ _ s1 e he _ hx
      omega
  have s1' : Spine g' 32 (E.take k) c l1 := by
    refine s1.frame (fun e => hg 32 (by have := c32 n hn; omega) e) (fun x hx => ?_) (fun x hx => ?_) nd1 (fun x y hx hy => far x y (by simp [hx]) (by simp [hy]))
    · have h3 := farn x (by simp [hx])
      refine ⟨hg _ (by omega) ?_, fun e => hg _ (by omega) e⟩
      rcases hcl with e | ⟨y, hy, e⟩
      · have := c32 x (hl x (by simp [hx])); omega
      · by_cases hxy : x = y
        · omega
        · have := far x y (by simp [hx]) (by simp [hy]) hxy; omega
    · have h4 := c32 x (hl x (by simp [hx]))
      refine ⟨?_, by omega⟩
      rcases hcl with e | ⟨y, hy, e⟩
      · omega
      · by_cases hxy : x = y
        · omega
        · have := far x y (by simp [hx]) (by simp [hy]) hxy; omega
  refine ⟨?_, by rw [hg _ (by omega) (by omega), h16]⟩
  have := s1'.snoc hgl hn0 t2' hlt fun y hy e he => by
    rcases List.mem_append.1 hy with hy | hy
    · have h5 := hlt y hy; have h6 := hgt e he; omega
    · have : y = n := by simpa using hy
      rw [this]; exact hgt e he
  simpa using this
end
end Go.Proofs.YtcbdbflgfhbikaaGreat
namespace Go.Proofs.YtcbdbflgfhbikaaGreat
open Go.RowKit
theorem least_exists {P : Nat → Prop} : ∀ n, P n → ∃ k, P k ∧ ∀ j, P j → k ≤ j := by
  intro n
  induction n using Nat.strongRecOn with
  | ind n ih =>
    intro hn
    by_cases h : ∃ j, j < n ∧ P j
    · obtain ⟨j, hj, hp⟩ := h
      exact ih j hj hp
    · exact ⟨n, hn, fun j hj => Nat.le_of_not_lt fun hlt => h ⟨j, hlt, hj⟩⟩
open Classical in
noncomputable def leastN (P : Nat → Prop) : Nat := if h : ∃ k, P k ∧ ∀ j, P j → k ≤ j then Classical.choose h else 0
theorem leastN_spec {P : Nat → Prop} {n : Nat} (h : P n) : P (leastN P) ∧ leastN P ≤ n := by
  have he := least_exists n h
  unfold leastN
  rw [dif_pos he]
  have := Classical.choose_spec he
  exact ⟨this.1, this.2 n h⟩
def gtL (z : Nat → Nat) (s o : Nat) (l : List Nat) : List Nat := l.filter fun x => decide (ltK s o (z x) x)
section
variable {f z : Nat → Nat} {F S Tl : List Nat} {s o n i : Nat} {stk m r : List Nat}
def Rem (f z : Nat → Nat) (F : List Nat) (s o : Nat) : List Nat → List Nat → Prop
  | [], l => l = []
  | x :: st, l => x ∈ F ∧ ∃ b r, l = x :: (b ++ r) ∧ TreeOf f rkN (f (x + 16)) b ∧ Rising z b ∧ (∀ y, y ∈ b → y ∈ F ∧ ltK s o (z y) y) ∧ Rem f z F s o st r
theorem Rem.len : ∀ {st l : List Nat}, Rem f z F s o st l → st.length ≤ l.length
  | [], l, h => Nat.zero_le _
  | x :: st, l, h => by
    obtain ⟨_, b, r, rfl, _, _, _, hr⟩ := h
    have := hr.len
    simp
    omega
def WayAt (f z : Nat → Nat) (F Tl : List Nat) (s o n : Nat) (stk : List Nat) (i : Nat) : Prop :=
  ∃ m r, TreeOf f rkN n m ∧ Rising z m ∧ (∀ x, x ∈ m → x ∈ F) ∧ Tl.drop i = gtL z s o m ++ r ∧ Rem f z F s o stk.reverse r
theorem way_start (ht : TreeOf f rkN n S) (hr : Rising z S) (hF : ∀ x, x ∈ S → x ∈ F) : WayAt f z F (gtL z s o S) s o n [] 0 :=
  ⟨S, [], ht, hr, hF, by simp, rfl⟩
theorem WayAt.mem (h : WayAt f z F Tl s o n stk i) (h0 : n ≠ 0) : n ∈ F := by
  obtain ⟨m, r, ht, _, hF, _⟩ := h
  exact hF n (ht.mem h0)
theorem WayAt.short (h : WayAt f z F Tl s o n stk i) : stk.length ≤ Tl.length := by
  obtain ⟨m, r, _, _, _, h1, h2⟩ := h
  have h3 := h2.len
  have h4 := congrArg List.length h1
  simp at h3 h4
  omega
theorem WayAt.sons (h : WayAt f z F Tl s o n stk i) (h0 : n ≠ 0) : (f (n + 8) = 0 ∨ rkN (f (n + 8)) < rkN n) ∧ (f (n + 16) = 0 ∨ rkN (f (n + 16)) < rkN n) := by
  obtain ⟨m, r, ht, _⟩ := h
  obtain ⟨L, R, rfl, hL, hR, tL, tR⟩ := ht.some h0
  exact ⟨rank_or tL hL, rank_or tR hR⟩
theorem WayAt.aside (h : WayAt f z F Tl s o n stk i) (h0 : n ≠ 0) (hk : ltK s o (z n) n) : WayAt f z F Tl s o (f (n + 8)) (stk ++ [n]) i := by
  obtain ⟨m, r, ht, hr, hF, h1, h2⟩ := h
  obtain ⟨L, R, rfl, hL, hR, tL, tR⟩ := ht.some h0
  obtain ⟨a1, a2, a3, a4⟩ := hr.ahead
  have hg : ∀ y, y ∈ R → ltK s o (z y) y := fun y hy => by
    have := a2 y hy
    unfold blkLt keyLt at this
    unfold ltK at hk ⊢
    omega
  have hR' : gtL z s o R = R := List.filter_eq_self.2 fun y hy => decide_eq_true (hg y hy)
  refine ⟨L, n :: (R ++ r), tL, a3, fun x hx => hF x (by simp [hx]), ?_, ?_⟩
  · rw [h1]
    unfold gtL at hR' ⊢
    rw [List.filter_append, List.filter_cons, if_pos (decide_eq_true hk), hR']
    simp
  · rw [List.reverse_append]
    exact ⟨hF n (by simp), R, r, rfl, tR, a4, fun y hy => ⟨hF y (by simp [hy]), hg y hy⟩, h2⟩
theorem WayAt.pass (h : WayAt f z F Tl s o n stk i) (h0 : n ≠ 0) (hk : ¬ ltK s o (z n) n) : WayAt f z F Tl s o (f (n + 16)) stk i := by
  obtain ⟨m, r, ht, hr, hF, h1, h2⟩ := h
  obtain ⟨L, R, rfl, hL, hR, tL, tR⟩ := ht.some h0
  obtain ⟨a1, a2, a3, a4⟩ := hr.ahead
  have hL' : gtL z s o L = [] := List.filter_eq_nil_iff.2 fun y hy => by
    have := a1 y hy
    unfold blkLt keyLt at this
    unfold ltK at hk
    simp only [decide_eq_true_eq]
    unfold ltK
    omega
  refine ⟨R, r, tR, a4, fun x hx => hF x (by simp [hx]), ?_, h2⟩
  rw [h1]
  unfold gtL at hL' ⊢
  rw [List.filter_append, List.filter_cons, if_neg (by simpa using hk), hL', List.nil_append]
theorem WayAt.tell {x : Nat} (h : WayAt f z F Tl s o 0 (stk ++ [x]) i) : i < Tl.length ∧ Tl.getD i 0 = x ∧ x ∈ F ∧ WayAt f z F Tl s o (f (x + 16)) stk (i + 1) := by
  obtain ⟨m, r, ht, hr, hF, h1, h2⟩ := h
  rw [ht.zero] at h1
  rw [List.reverse_append] at h2
  obtain ⟨hx, b, r', rfl, tb, rb, hb, hrem⟩ := h2
  have h3 : Tl.drop i = x :: (b ++ r') := h1
  have hi : i < Tl.length := by
    have := congrArg List.length h3
    simp at this
    omega
  have h4 := List.drop_eq_getElem_cons hi
  rw [h3] at h4
  injection h4 with h5 h6
  refine ⟨hi, by rw [List.getD_eq_getElem?_getD, List.getElem?_eq_getElem hi]; exact h5.symm, hx, b, r', tb, rb, fun y hy => (hb y hy).1, ?_, hrem⟩
  rw [← h6]
  congr 1
  exact (List.filter_eq_self.2 fun y hy => decide_eq_true (hb y hy).2).symm
theorem WayAt.done (h : WayAt f z F Tl s o 0 [] i) (hi : i ≤ Tl.length) : i = Tl.length := by
  obtain ⟨m, r, ht, hr, hF, h1, h2⟩ := h
  rw [ht.zero] at h1
  have h2' : r = [] := h2
  subst h2'
  have := congrArg List.length h1
  simp [gtL] at this
  omega
end
end Go.Proofs.YtcbdbflgfhbikaaGreat
namespace Go.Proofs.YtcbdbflgfhbikaaGreat
open Go.RowKit
def SplitE (f g z : Nat → Nat) (F l : List Nat) (off left right n : Nat) : Prop := ∃ k, SplitAt f g z F l off left right n k
def SplitD (f g z : Nat → Nat) (l : List Nat) (off : Nat) : Prop :=
  ∃ a b, l = a ++ b ∧ (∀ x, x ∈ a → blkLt z x off) ∧ (∀ x, x ∈ b → blkLt z off x) ∧ TreeOf g rkN (g (off + 8)) a ∧ TreeOf g rkN (g (off + 16)) b ∧ ∀ q, q ≠ off + 8 → q ≠ off + 16 → (∀ x, x ∈ l → q ≠ x + 8 ∧ q ≠ x + 16) → g q = f q
section
variable {w : World} {T M : Nat} {R : Option Nat} {B D : Nat} {ws : List Nat} {l l' : List (Nat × Nat)} {z : Nat → Nat} {F S lst : List Nat} {off lk n k v left right : Nat}
theorem SplitAt.kept {f g : Nat → Nat} (hU : Under z F lst off) (h : SplitAt f g z F lst off left right n k) : Kept F f g := by
  obtain ⟨a, m, b, PL, PR, _, _, _, _, _, _, _, _, hf⟩ := h
  exact fun q h1 h2 => hf q (h2 off hU.mem).1 (h2 off hU.mem).2 fun x hx => h2 x (hU.sub x hx).1
theorem SplitAt.linkOf {f g : Nat → Nat} (hU : Under z F lst off) (h : SplitAt f g z F lst off left right n k) : LinkOf F left ∧ LinkOf F right := by
  obtain ⟨h1, h2⟩ := h.links
  constructor
  · rcases h1 with e | ⟨x, hx, e⟩
    · exact .inr ⟨off, hU.mem, .inl e⟩
    · exact .inr ⟨x, (hU.sub x hx).1, e⟩
  · rcases h2 with e | ⟨x, hx, e⟩
    · exact .inr ⟨off, hU.mem, .inr e⟩
    · exact .inr ⟨x, (hU.sub x hx).1, e⟩
theorem rank_pos (h0 : n ≠ 0) (hn : n < 18446744073709551616) : 0 < rkN n := by
  rcases Nat.eq_zero_or_pos (rkN n) with e | e
  · exact absurd (rkN_inj hn (by omega) (e.trans rkN_zero.symm)) h0
  · exact e
theorem rank_son {y : Nat} (h : y = 0 ∨ rkN y < rkN n) (h0 : 0 < rkN n) : rkN y < rkN n := by
  rcases h with rfl | h
  · rw [rkN_zero]; exact h0
  · exact h
set_option maxHeartbeats 4000000 in
theorem tsplit_any (h : Thinks w T M R B D ws l) (hB : Bed ws l z F) (hU : Under z F lst off) (below : Nat) (ht : TreeOf (txSee ws l) rkN below lst) :
    Calls Tryz.prog 100 #[.agg #[.pointer (some ⟨T, 0, none⟩)], .int .u64 below, .agg #[.int .u64 (z off), .int .u64 off]] w fun e w' => e = .returned (.tuple #[]) ∧ ∃ l', Thought w T M R B D ws l' w' ∧ SplitD (txSee ws l) (txSee ws l') z lst off := by
  have ho64 := (hB.first hU.mem).2
  have hst := split_start hU ht
  have hsub := hU.sub
  obtain ⟨zo, hzo⟩ : ∃ q, z off = q := ⟨_, rfl⟩
  rw [hzo]
  have HZ := Lib.hid hzo
  obtain ⟨f, ef⟩ : ∃ f, txSee ws l = f := ⟨_, rfl⟩
  rw [ef] at hst ⊢
  have e8 : IntKind.u64.wrap ((off : Int) + 8) = (off + 8 : Nat) := by rw [IntKind.wrap_u64]; omega
  have e16 : IntKind.u64.wrap ((off : Int) + 16) = (off + 16 : Nat) := by rw [IntKind.wrap_u64]; omega
  obtain ⟨o8, eo8⟩ : ∃ q, off + 8 = q := ⟨_, rfl⟩
  obtain ⟨o16, eo16⟩ : ∃ q, off + 16 = q := ⟨_, rfl⟩
  rw [eo8] at e8
  rw [eo16] at e16
  have hg0 : w.grownBy ((w.alloc (.cells #[.pointer (some ⟨T, 0, none⟩)] 135)).alloc (.cells #[.int .u64 zo, .int .u64 off] 140)) none := grown_trans (World.grownBy_alloc _ _ _) (World.grownBy_alloc _ _ _)
  have ha : ((w.alloc (.cells #[.pointer (some ⟨T, 0, none⟩)] 135)).alloc (.cells #[.int .u64 zo, .int .u64 off] 140)).heap[w.heap.size]? = some (.cells #[.pointer (some ⟨T, 0, none⟩)] 135 (0, 0)) := (Below.heap_alloc _ _ _ (by simp)).trans (heap_alloc_new' w _)
  have hb : ((w.alloc (.cells #[.pointer (some ⟨T, 0, none⟩)] 135)).alloc (.cells #[.int .u64 zo, .int .u64 off] 140)).heap[w.heap.size + 1]? = some (.cells #[.int .u64 zo, .int .u64 off] 140 (0, 0)) := by
    have := heap_alloc_new' (w.alloc (.cells #[.pointer (some ⟨T, 0, none⟩)] 135)) (.cells #[.int .u64 zo, .int .u64 off] 140)
    rwa [World.size_alloc] at this
  obtain ⟨W, hW⟩ : ∃ W, (w.alloc (.cells #[.pointer (some ⟨T, 0, none⟩)] 135)).alloc (.cells #[.int .u64 zo, .int .u64 off] 140) = W := ⟨_, rfl⟩
  rw [hW] at ha hb hg0
  have hTW := h.later hg0
  obtain ⟨b0, b1⟩ := two_cells hb
  have hbox : ∀ {wr : World} {l2 : List (Nat × Nat)}, Thought W T M R B D ws l2 wr → wr.heap[w.heap.size]? = some (.cells #[.pointer (some ⟨T, 0, none⟩)] 135 (0, 0)) ∧ wr.heap[w.heap.size + 1]? = some (.cells #[.int .u64 zo, .int .u64 off] 140 (0, 0)) := fun {wr l2} ⟨R', k1, k2, k3⟩ =>
    ⟨k2.heap ha (hTW.far ha (by decide) (by decide)), k2.heap hb (hTW.far hb (by decide) (by decide))⟩
  have H8 := Lib.hid eo8
  have H16 := Lib.hid eo16
  have HB := Lib.hid hB
  have HU := Lib.hid hU
  have HS := Lib.hid (show SplitE f f z F lst off o8 o16 below from ⟨_, by rw [← eo8, ← eo16]; exact hst⟩)
  have HTW := Lib.hid (Thought.same hTW (grown_drew (grown_refl W none)))
  have HG0 := Lib.hid hg0
  have HEF := Lib.hid ef
  clear hst eo8 eo16 hB hU ha hb hTW ht h hzo hg0 ef
  go_enter Tryz.func100, Tryz.ntmps100
  go_wp2
  go_region
  all_goals go_wp2
  go_loopw [6, 7, 8] (fun p q j wr => ∃ left right n l2, p = .int .u64 (left : Nat) ∧ q = .int .u64 (right : Nat) ∧ j = .int .u64 (n : Nat) ∧ SplitE f (txSee ws l2) z F lst off left right n ∧ Thought W T M R B D ws l2 wr) (fun p q j _ => rkN (intOf j).toNat)
  case atStart => exact ⟨o8, o16, below, l, rfl, rfl, rfl, HEF.out ▸ HS.out, HTW.out⟩
  case round =>
    obtain ⟨left, right, n, l2, rfl, rfl, rfl, hS, hTh⟩ := hrel
    obtain ⟨X1, X2⟩ := hbox hTh
    obtain ⟨R2, ht2, hq2, hr2⟩ := hTh
    obtain ⟨k0, hS0⟩ := hS
    have hBl := HB.out.kept (l' := l2) (HEF.out.symm ▸ hS0.kept HU.out)
    obtain ⟨hkL, hkR⟩ := hS0.linkOf HU.out
    have c0 := cell_of_one X1
    by_cases h0 : n = 0
    · subst h0
      have hl1 : Calls Tryz.prog 99 #[.agg #[.pointer (some ⟨T, 0, none⟩)], .int .u64 left, .int .u64 0] wr _ := tlead_any ht2 left 0 (hBl.stand hkL).1 (hBl.stand hkL).2 (by omega)
      have hl2 : ∀ (w1 : World) (R3 : Option Nat) (l3 : List (Nat × Nat)), Thinks w1 T M R3 B D ws l3 → Calls Tryz.prog 99 #[.agg #[.pointer (some ⟨T, 0, none⟩)], .int .u64 right, .int .u64 0] w1 _ := fun w1 R3 l3 h3 => tlead_any h3 right 0 (hBl.stand hkR).1 (hBl.stand hkR).2 (by omega)
      clear hkL hkR hBl
      go_wp2_with (first | (go_at_call 99; (with_reducible refine hl1.mono ?_); rintro e w3 ⟨rfl, l3, ⟨R3, ht3, hq3, hr3⟩, hl3⟩; have c3 := cell_of_one (hq3.heap X1 (ht2.far X1 (by decide) (by decide)))) | (go_at_call 99; (with_reducible refine (hl2 _ _ _ ht3).mono ?_); rintro e w4 ⟨rfl, l4, ht4, hl4⟩))
      go_end0
      exact ⟨rfl, l4, Thought.first HG0.out (Thought.trans hq2 hr2 (Thought.trans hq3 hr3 ht4)), split_end HU.out hS0 hl3.off hl3.at_ hl4.off hl4.at_⟩
    · have h0' : ¬ (n : Int) = 0 := by omega
      have hnF := hsub n (hS0.mem h0)
      have hn64 := (HB.out.first hnF.1).2
      have hkey := fun (w1 : World) (hg : wr.grownBy w1 none) => tkey_any (ht2.later hg) n (by omega)
      rw [hBl.keys n hnF.1] at hkey
      have hcmp := fun w => tcompare_grown (z n) n zo off w
      have hcell : ∀ {wq : World}, wr.grownBy wq none → wq.cell? ⟨w.heap.size, 0, none⟩ = some (.pointer (some ⟨T, 0, none⟩)) ∧ wq.cell? ⟨w.heap.size + 1, 0, none⟩ = some (.int .u64 zo) ∧ wq.cell? ⟨w.heap.size + 1, 1, none⟩ = some (.int .u64 off) := fun {wq} hg => ⟨cell_of_one ((hg.block _ (lt_of_block X1) (by simp)).trans X1), two_cells (two_held X2 hg)⟩
      have HG : wr.grownBy wr.drew none := grown_drew (grown_refl _ _)
      obtain ⟨d0, d1, d2⟩ := hcell HG
      clear c0
      by_cases hlt : blkLt z n off
      · skip
        have hlead := fun (w1 : World) (hg : wr.grownBy w1 none) => tlead_any (ht2.later hg) left n (hBl.stand hkL).1 (hBl.stand hkL).2 (by omega)
        have hnext := fun (l3 : List (Nat × Nat)) (hl : Led ws l2 left n l3) => split_left HU.out hS0 h0 (hlt) hl.off hl.at_
        have hkept := fun (l3 : List (Nat × Nat)) (hl : Led ws l2 left n l3) => hBl.led hkL hl
        obtain ⟨n8, e8⟩ : ∃ q, n + 16 = q := ⟨_, rfl⟩
        have e9 : IntKind.u64.wrap ((n : Int) + 16) = (n8 : Nat) := by rw [IntKind.wrap_u64]; omega
        have hn8 : n8 < 18446744073709551616 := by omega
        rw [e8] at hnext
        rw [cmpK_lt (show ltK (z n) n zo off by rw [← HZ.out]; exact hlt)] at hcmp
        have HNX := Lib.hid hnext
        have HKP := Lib.hid hkept
        have HRP := Lib.hid (rank_pos h0 (by omega))
        clear hnext hkept hkL hkR hBl h0 hlt hn64 hS0 hnF e8
        go_wp2
        go_region_held3 (fun wq => wq.cell? ⟨w.heap.size, 0, none⟩ = some (.pointer (some ⟨T, 0, none⟩)) ∧ wq.cell? ⟨w.heap.size + 1, 0, none⟩ = some (.int .u64 zo) ∧ wq.cell? ⟨w.heap.size + 1, 1, none⟩ = some (.int .u64 off)) (exact hcell HG) (first | (go_at_call 101; (with_reducible refine (hkey _ HG).mono ?_); rintro e w9 ⟨rfl, hg9⟩; replace HG := grown_trans HG hg9; obtain ⟨d0, d1, d2⟩ := hcell HG) | (go_at_call 127; (with_reducible refine (hcmp _).mono ?_); rintro e w9 ⟨rfl, hg9⟩; replace HG := grown_trans HG hg9; obtain ⟨d0, d1, d2⟩ := hcell HG))
        go_wp2_with (first | (go_at_call 99; (with_reducible refine (hlead _ HG).mono ?_); rintro e w6 ⟨rfl, l3, ⟨R3, ht3, hq3, hr3⟩, hl3⟩; have c6 := cell_of_one (hq3.heap ((HG.block _ (lt_of_block X1) (by simp)).trans X1) ((ht2.later HG).far ((HG.block _ (lt_of_block X1) (by simp)).trans X1) (by decide) (by decide))); have hld := txload_any ht3 n8 hn8; obtain ⟨y, hy⟩ : ∃ y, txSee ws l3 n8 = y := ⟨_, rfl⟩; rw [hy] at hld; have HY := Lib.hid hy; clear hy) | (go_at_call 17; (with_reducible refine hld.mono ?_); rintro e w7 ⟨rfl, hg7⟩))
        go_roundw
        case rel =>
          obtain ⟨⟨j, _, hj⟩, _⟩ : (∃ j, j < k0 ∧ SplitAt f (txSee ws l3) z F lst off n8 right (txSee ws l3 n8) j ∧ _) ∧ True := ⟨HNX.out l3 hl3, trivial⟩
          exact ⟨n8, right, y, l3, by go_num, by go_num, by go_num, ⟨j, HY.out ▸ hj.1⟩, Thought.trans hq2 hr2 (Thought.first HG (Thought.later ⟨R3, ht3, hq3, hr3⟩ hg7))⟩
        case measure =>
          obtain ⟨j, _, _, hj⟩ := HNX.out l3 hl3
          have := rank_son (HY.out ▸ hj) HRP.out
          simpa [intOf] using this
      · have hgt : cmpK (z n) n zo off = 1 := by
          have hl2 := blkLt.total hlt hnF.2
          rw [← HZ.out]
          unfold blkLt keyLt at hl2
          unfold cmpK
          rcases hl2 with h1 | ⟨h1, h2⟩
          · rw [cmpN_gt h1]; simp
          · rw [h1, cmpN_eq, if_pos rfl, cmpN_gt h2]
        have hlead := fun (w1 : World) (hg : wr.grownBy w1 none) => tlead_any (ht2.later hg) right n (hBl.stand hkR).1 (hBl.stand hkR).2 (by omega)
        have hnext := fun (l3 : List (Nat × Nat)) (hl : Led ws l2 right n l3) => split_right HU.out hS0 h0 (blkLt.total hlt hnF.2) hl.off hl.at_
        have hkept := fun (l3 : List (Nat × Nat)) (hl : Led ws l2 right n l3) => hBl.led hkR hl
        obtain ⟨n8, e8⟩ : ∃ q, n + 8 = q := ⟨_, rfl⟩
        have e9 : IntKind.u64.wrap ((n : Int) + 8) = (n8 : Nat) := by rw [IntKind.wrap_u64]; omega
        have hn8 : n8 < 18446744073709551616 := by omega
        rw [e8] at hnext
        rw [hgt] at hcmp
        have HNX := Lib.hid hnext
        have HKP := Lib.hid hkept
        have HRP := Lib.hid (rank_pos h0 (by omega))
        clear hnext hkept hkL hkR hBl h0 hlt hn64 hS0 hnF e8
        go_wp2
        go_region_held3 (fun wq => wq.cell? ⟨w.heap.size, 0, none⟩ = some (.pointer (some ⟨T, 0, none⟩)) ∧ wq.cell? ⟨w.heap.size + 1, 0, none⟩ = some (.int .u64 zo) ∧ wq.cell? ⟨w.heap.size + 1, 1, none⟩ = some (.int .u64 off)) (exact hcell HG) (first | (go_at_call 101; (with_reducible refine (hkey _ HG).mono ?_); rintro e w9 ⟨rfl, hg9⟩; replace HG := grown_trans HG hg9; obtain ⟨d0, d1, d2⟩ := hcell HG) | (go_at_call 127; (with_reducible refine (hcmp _).mono ?_); rintro e w9 ⟨rfl, hg9⟩; replace HG := grown_trans HG hg9; obtain ⟨d0, d1, d2⟩ := hcell HG))
        go_wp2_with (first | (go_at_call 99; (with_reducible refine (hlead _ HG).mono ?_); rintro e w6 ⟨rfl, l3, ⟨R3, ht3, hq3, hr3⟩, hl3⟩; have c6 := cell_of_one (hq3.heap ((HG.block _ (lt_of_block X1) (by simp)).trans X1) ((ht2.later HG).far ((HG.block _ (lt_of_block X1) (by simp)).trans X1) (by decide) (by decide))); have hld := txload_any ht3 n8 hn8; obtain ⟨y, hy⟩ : ∃ y, txSee ws l3 n8 = y := ⟨_, rfl⟩; rw [hy] at hld; have HY := Lib.hid hy; clear hy) | (go_at_call 17; (with_reducible refine hld.mono ?_); rintro e w7 ⟨rfl, hg7⟩))
        go_roundw
        case rel =>
          obtain ⟨⟨j, _, hj⟩, _⟩ : (∃ j, j < k0 ∧ SplitAt f (txSee ws l3) z F lst off left n8 (txSee ws l3 n8) j ∧ _) ∧ True := ⟨HNX.out l3 hl3, trivial⟩
          exact ⟨left, n8, y, l3, by go_num, by go_num, by go_num, ⟨j, HY.out ▸ hj.1⟩, Thought.trans hq2 hr2 (Thought.first HG (Thought.later ⟨R3, ht3, hq3, hr3⟩ hg7))⟩
        case measure =>
          obtain ⟨j, _, _, hj⟩ := HNX.out l3 hl3
          have := rank_son (HY.out ▸ hj) HRP.out
          simpa [intOf] using this
end
end Go.Proofs.YtcbdbflgfhbikaaGreat
namespace Go.Proofs.YtcbdbflgfhbikaaGreat
open Go.RowKit
set_option maxRecDepth 100000
theorem info_node : (Tryz.prog.info? 142).map (fun i => (i.zero, i.size, i.bytes)) = some (some (.agg #[.int .u64 0, .int .u64 0, .int .u64 0, .int .u64 0]), 4, 32) := by kernel_rfl
theorem info_nptr : (Tryz.prog.info? 181).map (fun i => (i.zero, i.size, i.bytes)) = some (some (.pointer none), 1, 8) := by kernel_rfl
theorem made_nodes (n : Nat) : madeCells (#[.int .u64 0, .int .u64 0, .int .u64 0, .int .u64 0] : Array Value) (n * 4) = (cellsN (List.replicate n default)).toArray := by
  apply Array.ext
  · simp [size_madeCells, cellsN_len]
  · intro i h1 h2
    rw [size_madeCells] at h1
    have h4 := cellsN_at (List.replicate n default) (i / 4) (i % 4) (by simp; omega) (by omega)
    rw [show i / 4 * 4 + i % 4 = i by omega] at h4
    have h5 : (List.replicate n (default : Nd)).getD (i / 4) default = default := by
      rw [List.getD_eq_getElem?_getD, List.getElem?_replicate]
      split <;> rfl
    rw [h5] at h4
    have h6 : i < (cellsN (List.replicate n default)).length := by simpa using h2
    rw [List.getElem?_eq_getElem h6] at h4
    simp only [List.getElem_toArray, madeCells, Array.getElem_map, Array.getElem_range]
    have hi4 : i % 4 = 0 ∨ i % 4 = 1 ∨ i % 4 = 2 ∨ i % 4 = 3 := by omega
    show (#[.int .u64 0, .int .u64 0, .int .u64 0, .int .u64 0] : Array Value)[i % 4]! = _
    rcases hi4 with e | e | e | e <;> rw [e] at h4 ⊢ <;> exact (Option.some.inj h4).symm
theorem make_nodes (n : Nat) (hn : n ≤ 1000000) (w : World) :
    (Instr.makeSlice 136 (.int .i64 n) (.int .i64 n)).run Tryz.prog w = .ok (.slice (some ⟨w.heap.size, 0, none⟩) n n) (w.alloc (.cells (cellsN (List.replicate n default)).toArray 142)) := by
  obtain ⟨i, hi, hz, hs, hb⟩ := info_parts info_node
  have h := run_make (P := Tryz.prog) w 136 142 i _ Tryz.underlying136 hi hz .i64 .i64 n n (by omega) (Int.le_refl _) (by rw [hb]; omega) (by omega)
  rw [h, hs]
  simp only [Int.toNat_natCast]
  rw [show (Value.agg #[.int .u64 0, .int .u64 0, .int .u64 0, .int .u64 0]).cells = #[.int .u64 0, .int .u64 0, .int .u64 0, .int .u64 0] from rfl, made_nodes]
def ndS (z : Nat → Nat) (L : List Nat) : Nat → List Nd
  | 0 => List.replicate L.length default
  | i + 1 => (ndS z L i).set i { (ndS z L i).getD i default with s := z (L.getD i 0), o := L.getD i 0 }
theorem ndS_len (z : Nat → Nat) (L : List Nat) : ∀ i, (ndS z L i).length = L.length
  | 0 => by simp [ndS]
  | i + 1 => by simp [ndS, ndS_len z L i]
theorem ndS_get (z : Nat → Nat) (L : List Nat) : ∀ i j, i ≤ L.length → j < L.length → (ndS z L i).getD j default = if j < i then ⟨z (L.getD j 0), L.getD j 0, 0, 0⟩ else default
  | 0, j, _, hj => by
    rw [if_neg (by omega)]
    unfold ndS
    rw [List.getD_eq_getElem?_getD, List.getElem?_replicate]
    split <;> rfl
  | i + 1, j, hi, hj => by
    unfold ndS
    rw [List.getD_eq_getElem?_getD, List.getElem?_set]
    by_cases e : i = j
    · subst e
      rw [if_pos rfl, if_pos (by rw [ndS_len]; omega), if_pos (by omega), ndS_get z L i i (by omega) hj, if_neg (by omega)]
      rfl
    · rw [if_neg e, ← List.getD_eq_getElem?_getD, ndS_get z L i j (by omega) hj]
      by_cases e2 : j < i
      · rw [if_pos e2, if_pos (by omega)]
      · rw [if_neg e2, if_neg (by omega)]
theorem ndS_all (z : Nat → Nat) (L : List Nat) : ndS z L L.length = L.map fun x => ⟨z x, x, 0, 0⟩ := by
  apply List.ext_getElem
  · simp [ndS_len]
  · intro i h1 h2
    rw [ndS_len] at h1
    have := ndS_get z L L.length i (Nat.le_refl _) h1
    rw [if_pos h1, List.getD_eq_getElem?_getD, List.getElem?_eq_getElem (by rw [ndS_len]; exact h1)] at this
    simp only [Option.getD_some] at this
    rw [this, List.getElem_map]
    rw [List.getD_eq_getElem?_getD, List.getElem?_eq_getElem h1]
    rfl
def ptrs (ab g : Nat) (es : List Nat) : List Value := .pointer (some ⟨ab, 0, none⟩) :: es.map fun i => .pointer (some ⟨g, i * 4, none⟩)
theorem ptrs_len (ab g : Nat) (es : List Nat) : (ptrs ab g es).length = es.length + 1 := by simp [ptrs]
theorem ptrs_take (ab g : Nat) (es : List Nat) (k : Nat) : (ptrs ab g es).take (k + 1) = ptrs ab g (es.take k) := by simp [ptrs, List.map_take]
theorem ptrs_snoc (ab g : Nat) (es : List Nat) (i : Nat) : ptrs ab g es ++ [.pointer (some ⟨g, i * 4, none⟩)] = ptrs ab g (es ++ [i]) := by simp [ptrs]
def OwnE (w : World) (base : Nat) (v : Value) (ab g : Nat) (es : List Nat) : Prop := w.ownsRow base 181 1 v (es.length + 1) (ptrs ab g es)
section
variable {w w' : World} {base ab g : Nat} {v : Value} {es : List Nat}
theorem OwnE.form (h : OwnE w base v ab g es) : ∃ eb cap cur, v = .slice (some ⟨eb, 0, none⟩) (es.length + 1) cap ∧ base ≤ eb ∧ es.length + 1 ≤ cap ∧ w.heap[eb]? = some (.cells cur 181 (0, 0)) ∧ w.cell? ⟨eb, 0, none⟩ = some (.pointer (some ⟨ab, 0, none⟩)) ∧ ∀ j, j < es.length → w.cell? ⟨eb, j + 1, none⟩ = some (.pointer (some ⟨g, es.getD j 0 * 4, none⟩)) := by
  obtain ⟨h1, h2 | ⟨eb, cap, cur, rfl, hb, hh, hn, hc, hs, ht⟩⟩ := h
  · have := h2.2; omega
  · have hcell : ∀ j, j < es.length + 1 → w.cell? ⟨eb, j, none⟩ = (ptrs ab g es)[j]? := fun j hj => by
      unfold World.cell?
      rw [hh]
      simp only [Option.isSome_none, Bool.false_eq_true, if_false]
      rw [← ht, List.getElem?_take, if_pos (by omega)]
      simp
    refine ⟨eb, cap, cur, rfl, hb, hn, hh, hcell 0 (by omega), fun j hj => ?_⟩
    rw [hcell (j + 1) (by omega)]
    show (es.map fun i => Value.pointer (some ⟨g, i * 4, none⟩))[j]? = _
    rw [List.getElem?_map, List.getD_eq_getElem?_getD, List.getElem?_eq_getElem hj]
    rfl
theorem OwnE.take {a : Option Addr} {m cap : Nat} (h : OwnE w base (.slice a m cap) ab g es) (k : Nat) (hk : k ≤ es.length) : OwnE w base (.slice a (k + 1) cap) ab g (es.take k) := by
  obtain ⟨h1, h2 | ⟨eb, cap', cur, hv, hb, hh, hn, hc, hs, ht⟩⟩ := h
  · have := h2.2; omega
  · injection hv with e1 e2 e3
    subst e1 e3
    have hlen : (es.take k).length = k := by simp; omega
    unfold OwnE
    rw [hlen]
    refine ⟨by rw [ptrs_len, hlen]; omega, .inr ⟨eb, cap, cur, rfl, hb, hh, by omega, hc, hs, ?_⟩⟩
    rw [← ptrs_take, ← ht, List.take_take]
    congr 1
    omega
end
theorem wpList_append_nptr {w2 : World} {ops : Array Oper} {rest : List Oper} {o : Oper} {a : Act} {Q : Exit → Act → World → Prop} (hgd : o.guard = none) (s x : Operand)
    (ho : o.op = .call { callee := .builtin .append, args := #[s, x], argTypes := #[182, 182] })
    (base : Nat) (v : Value) (n : Nat) (xs : List Value) (hs : a.eval s = v) (hown : w2.ownsRow base 181 1 v n xs) (y : Option Addr)
    (hx : a.eval x = .slice (some ⟨w2.heap.size, 0, none⟩) 1 1) (hn : n ≤ 1000000000) (hbase : base ≤ w2.heap.size)
    (h : ∀ v' w', w'.ownsRow base 181 1 v' (n + 1) (xs ++ [.pointer y]) → (w2.alloc (.cells #[.pointer y] 181)).grownBy w' v.ownBlock → (v'.ownBlock = v.ownBlock ∨ v'.ownBlock = some (w2.heap.size + 1)) → wpList Tryz.prog ops Q rest (a.put o.dst v') w') :
    wpList Tryz.prog ops Q (o :: rest) a (w2.alloc (.cells #[.pointer y] 181)) := by
  obtain ⟨i0, hi, hz0, hz1, hz2⟩ := info_parts info_nptr
  refine wpList_append_own_at _ hgd s x 182 ho base 181 i0 (.pointer none) 1 8 Tryz.underlying182 hi hz0 hz1 hz2 rfl (by decide) v n xs hs (hown.alloc _) ⟨w2.heap.size, 0, none⟩ 1 1 [.pointer y] hx rfl ?_ ?_ ?_ ?_ ?_ fun v' w' h1 h2 _ h4 => h v' w' h1 h2 (by rw [World.size_alloc] at h4; exact h4)
  · intro j u hj
    rcases j with _ | j
    · simp at hj
      subst hj
      exact World.cell?_alloc_at _ _ _ _ rfl
    · simp at hj
  · intro u hu
    simp at hu
    subst hu
    rfl
  · unfold maxLen; omega
  · omega
  · rw [World.size_alloc]; omega
end Go.Proofs.YtcbdbflgfhbikaaGreat
