/-
  A place in a tree of blocks where another tree may be hung, as plain mathematics.
  No condition.
-/
import Derived.Test.YthhboidjibdahaaGreatTreeM
namespace Go.Proofs.YthhboidjibdahaaGreat
set_option linter.unusedVariables false
set_option linter.unusedSimpArgs false

/-- These blocks' sons are words of their own. -/
structure Apart (root : Nat) (A : Nat → Prop) : Prop where
  far : ∀ x y, A x → A y → x ≠ y → x + 24 ≤ y ∨ y + 24 ≤ x
  root : ∀ x, A x → x + 8 ≠ root ∧ x + 16 ≠ root
/-- A link of the tree below root, below which stand those that P lets, ahead of it pre, behind it post. -/
structure Hole (f rk : Nat → Nat) (root : Nat) (A : Nat → Prop) (lk : Nat) (pre post : List Nat) (P : Nat → Prop) : Prop where
  apart : Apart root A
  sub : ∀ x, x ∈ pre ++ post → A x
  link : lk = root ∨ ∃ x, x ∈ pre ++ post ∧ (lk = x + 8 ∨ lk = x + 16)
  fill : ∀ (g : Nat → Nat) (m : List Nat), (∀ x, x ∈ pre ++ post → (x + 8 ≠ lk → g (x + 8) = f (x + 8)) ∧ (x + 16 ≠ lk → g (x + 16) = f (x + 16))) → (root ≠ lk → g root = f root) → (∀ x, x ∈ m → P x) → TreeOf g rk (g lk) m → TreeOf g rk (g root) (pre ++ m ++ post)
section
variable {f g rk : Nat → Nat} {root lk n v : Nat} {A P : Nat → Prop} {pre post l L R m : List Nat}
theorem mem_outL {y : Nat} (h : y ∈ pre ++ post) : y ∈ pre ++ (n :: (R ++ post)) := by
  rcases List.mem_append.1 h with h | h
  · simp [h]
  · simp [h]
theorem mem_outR {y : Nat} (h : y ∈ pre ++ post) : y ∈ (pre ++ (L ++ [n])) ++ post := by
  rcases List.mem_append.1 h with h | h
  · simp [h]
  · simp [h]
theorem mem_mid {y : Nat} (h : y ∈ m) : y ∈ pre ++ m ++ post := by simp [h]
theorem Apart.son {x y : Nat} (h : Apart root A) (hx : A x) (hy : A y) (hn : x ≠ y) : x + 8 ≠ y + 8 ∧ x + 8 ≠ y + 16 ∧ x + 16 ≠ y + 8 ∧ x + 16 ≠ y + 16 := by
  have := h.far x y hx hy hn
  omega
theorem Hole.start (h : Apart root A) : Hole f rk root A root [] [] fun _ => True where
  apart := h
  sub := fun x hx => by simp at hx
  link := .inl rfl
  fill := fun g m _ _ _ ht => by simpa using ht
/-- a block that stands elsewhere has no son at the link -/
theorem Hole.off {x : Nat} (h : Hole f rk root A lk pre post P) (hx : A x) (hn : x ∉ pre ++ post) : x + 8 ≠ lk ∧ x + 16 ≠ lk := by
  rcases h.link with e | ⟨y, hy, e⟩
  · rw [e]; exact h.apart.root x hx
  · have := h.apart.son hx (h.sub y hy) fun e => hn (e ▸ hy)
    omega
/-- what is turned elsewhere -/
theorem Hole.frame (h : Hole f rk root A lk pre post P) (hg : ∀ x, x ∈ pre ++ post → (x + 8 ≠ lk → g (x + 8) = f (x + 8)) ∧ (x + 16 ≠ lk → g (x + 16) = f (x + 16))) (hr : root ≠ lk → g root = f root) : Hole g rk root A lk pre post P where
  apart := h.apart
  sub := h.sub
  link := h.link
  fill := fun k m hk hkr hP ht => h.fill k m (fun x hx => ⟨fun e => ((hk x hx).1 e).trans ((hg x hx).1 e), fun e => ((hk x hx).2 e).trans ((hg x hx).2 e)⟩) (fun e => (hkr e).trans (hr e)) hP ht
theorem Hole.weak (h : Hole f rk root A lk pre post P) {Q : Nat → Prop} (hQ : ∀ x, Q x → P x) : Hole f rk root A lk pre post Q where
  apart := h.apart
  sub := h.sub
  link := h.link
  fill := fun g m h1 h2 h3 h4 => h.fill g m h1 h2 (fun x hx => hQ x (h3 x hx)) h4
/-- below a block's left son -/
theorem Hole.left (h : Hole f rk root A lk pre post P) (hn : f lk = n) (h0 : n ≠ 0) (hA : ∀ x, x ∈ n :: R → A x) (hnn : n ∉ pre ++ post) (hnR : n ∉ R) (hP : ∀ x, x ∈ n :: R → P x) (hR : ∀ x, x ∈ R → rk x < rk n) (hoff : ∀ x, x ∈ R → x ∉ pre ++ post) (tR : TreeOf f rk (f (n + 16)) R) :
    Hole f rk root A (n + 8) pre (n :: (R ++ post)) (fun y => P y ∧ rk y < rk n) where
  apart := h.apart
  sub := fun x hx => by
    simp only [List.mem_append, List.mem_cons] at hx
    rcases hx with hx | hx | hx | hx
    · exact h.sub x (by simp [hx])
    · exact hA x (by simp [hx])
    · exact hA x (by simp [hx])
    · exact h.sub x (by simp [hx])
  link := .inr ⟨n, by simp, .inl rfl⟩
  fill := fun g m hg hr hm ht => by
    have hAn := hA n (by simp)
    have ho := h.off hAn hnn
    have hlk : g lk = n := by
      rcases h.link with e | ⟨y, hy, e⟩
      · rw [e, hr (fun e => by have := (h.apart.root n hAn).1; omega), ← e, hn]
      · have hy' : y ≠ n := fun e => hnn (e ▸ hy)
        have hs := h.apart.son (h.sub y hy) hAn hy'
        have hgy := hg y (mem_outL hy)
        rcases e with e | e
        · rw [e, hgy.1 hs.1, ← e, hn]
        · rw [e, hgy.2 hs.2.2.1, ← e, hn]
    have e16 : g (n + 16) = f (n + 16) := (hg n (by simp)).2 (by omega)
    have hT : TreeOf g rk (g lk) (m ++ n :: R) := by
      rw [hlk]
      refine TreeOf.node h0 (fun x hx => (hm x hx).2) hR ht ?_
      rw [e16]
      refine tR.frame fun x hx => ?_
      have hs := h.apart.son (hA x (by simp [hx])) hAn (fun e => hnR (e ▸ hx))
      have hgx := hg x (by simp [hx])
      exact ⟨hgx.1 hs.1, hgx.2 hs.2.2.1⟩
    have := h.fill g (m ++ n :: R) (fun x hx => ?_) (fun e => hr (fun e => by have := (h.apart.root n hAn).1; omega)) (fun x hx => ?_) hT
    · simpa using this
    · have hs := h.apart.son (h.sub x hx) hAn (fun e => hnn (e ▸ hx))
      have hgx := hg x (mem_outL hx)
      exact ⟨fun _ => hgx.1 hs.1, fun _ => hgx.2 hs.2.2.1⟩
    · simp only [List.mem_append] at hx
      rcases hx with hx | hx
      · exact (hm x hx).1
      · exact hP x hx
/-- below a block's right son -/
theorem Hole.right (h : Hole f rk root A lk pre post P) (hn : f lk = n) (h0 : n ≠ 0) (hA : ∀ x, x ∈ n :: L → A x) (hnn : n ∉ pre ++ post) (hnL : n ∉ L) (hP : ∀ x, x ∈ n :: L → P x) (hL : ∀ x, x ∈ L → rk x < rk n) (hoff : ∀ x, x ∈ L → x ∉ pre ++ post) (tL : TreeOf f rk (f (n + 8)) L) :
    Hole f rk root A (n + 16) (pre ++ (L ++ [n])) post (fun y => P y ∧ rk y < rk n) where
  apart := h.apart
  sub := fun x hx => by
    simp only [List.mem_append, List.mem_cons, List.not_mem_nil, or_false] at hx
    rcases hx with (hx | hx | hx) | hx
    · exact h.sub x (by simp [hx])
    · exact hA x (by simp [hx])
    · exact hA x (by simp [hx])
    · exact h.sub x (by simp [hx])
  link := .inr ⟨n, by simp, .inr rfl⟩
  fill := fun g m hg hr hm ht => by
    have hAn := hA n (by simp)
    have ho := h.off hAn hnn
    have hlk : g lk = n := by
      rcases h.link with e | ⟨y, hy, e⟩
      · rw [e, hr (fun e => by have := (h.apart.root n hAn).2; omega), ← e, hn]
      · have hy' : y ≠ n := fun e => hnn (e ▸ hy)
        have hs := h.apart.son (h.sub y hy) hAn hy'
        have hgy := hg y (mem_outR hy)
        rcases e with e | e
        · rw [e, hgy.1 hs.2.1, ← e, hn]
        · rw [e, hgy.2 hs.2.2.2, ← e, hn]
    have e8 : g (n + 8) = f (n + 8) := (hg n (by simp)).1 (by omega)
    have hT : TreeOf g rk (g lk) (L ++ n :: m) := by
      rw [hlk]
      refine TreeOf.node h0 hL (fun x hx => (hm x hx).2) ?_ ht
      rw [e8]
      refine tL.frame fun x hx => ?_
      have hs := h.apart.son (hA x (by simp [hx])) hAn (fun e => hnL (e ▸ hx))
      have hgx := hg x (by simp [hx])
      exact ⟨hgx.1 hs.2.1, hgx.2 hs.2.2.2⟩
    have := h.fill g (L ++ n :: m) (fun x hx => ?_) (fun e => hr (fun e => by have := (h.apart.root n hAn).2; omega)) (fun x hx => ?_) hT
    · simpa using this
    · have hs := h.apart.son (h.sub x hx) hAn (fun e => hnn (e ▸ hx))
      have hgx := hg x (mem_outR hx)
      exact ⟨fun _ => hgx.1 hs.2.1, fun _ => hgx.2 hs.2.2.2⟩
    · simp only [List.mem_append, List.mem_cons] at hx
      rcases hx with hx | hx | hx
      · exact hP x (by simp [hx])
      · exact hP x (by simp [hx])
      · exact (hm x hx).1
/-- the link alone is stored -/
theorem Hole.put (h : Hole f rk root A lk pre post P) (hg : ∀ k, k ≠ lk → g k = f k) : Hole g rk root A lk pre post P :=
  h.frame (fun x _ => ⟨fun e => hg _ e, fun e => hg _ e⟩) fun e => hg _ e
/-- a tree elsewhere stays, where the link is stored -/
theorem Hole.keeps (h : Hole f rk root A lk pre post P) (hg : ∀ k, k ≠ lk → g k = f k) (hA : ∀ x, x ∈ m → A x) (hn : ∀ x, x ∈ m → x ∉ pre ++ post) (ht : TreeOf f rk v m) : TreeOf g rk v m :=
  ht.frame fun x hx => by
    have := h.off (hA x hx) (hn x hx)
    exact ⟨hg _ this.1, hg _ this.2⟩
end
end Go.Proofs.YthhboidjibdahaaGreat
