/-
  Texts of one layer, one behind the other: memory, contracts of the functions, and what follows of them.
  Conditions: as each theorem says.
-/
import Derived.Test.YtcbdbflgfhbikaaGreatLWoa
import Derived.Test.YtcbdbflgfhbikaaGreatLSea
import Derived.Laws.AppendOwnNone
import Derived.Test.YtcbdbflgfhbikaaGreatLTaa
import Derived.Sort.Grow
import Derived.Deep.RegionHeld3
import Derived.Test.YtcbdbflgfhbikaaGreatLTxb
import Derived.Maps.AppendAt
import Derived.Shelf.SlSortCmp.WholeK
set_option linter.unusedVariables false
set_option linter.unusedSimpArgs false
namespace Go.Proofs.YtcbdbflgfhbikaaGreat
def TreeN (f rk : Nat → Nat) : Nat → Nat → List Nat → Prop
  | 0, r, l => r = 0 ∧ l = []
  | n + 1, r, l => (r = 0 ∧ l = []) ∨ (r ≠ 0 ∧ ∃ L R, l = L ++ r :: R ∧ (∀ x, x ∈ L → rk x < rk r) ∧ (∀ x, x ∈ R → rk x < rk r) ∧ TreeN f rk n (f (r + 8)) L ∧ TreeN f rk n (f (r + 16)) R)
def TreeOf (f rk : Nat → Nat) (r : Nat) (l : List Nat) : Prop := TreeN f rk l.length r l
section
variable {f g rk : Nat → Nat} {n m r s : Nat} {l L R : List Nat}
theorem TreeN.up : ∀ {n m r : Nat} {l : List Nat}, TreeN f rk n r l → n ≤ m → TreeN f rk m r l
  | 0, 0, r, l, h, _ => h
  | 0, m + 1, r, l, h, _ => Or.inl h
  | n + 1, 0, r, l, h, hm => by omega
  | n + 1, m + 1, r, l, h, hm => by
    rcases h with h | ⟨h0, L, R, e, hL, hR, tL, tR⟩
    · exact Or.inl h
    · exact Or.inr ⟨h0, L, R, e, hL, hR, tL.up (by omega), tR.up (by omega)⟩
theorem TreeN.down : ∀ {n r : Nat} {l : List Nat} (m : Nat), TreeN f rk n r l → l.length ≤ m → TreeN f rk m r l
  | 0, r, l, m, h, _ => h.up (by omega)
  | n + 1, r, l, m, h, hm => by
    rcases h with h | ⟨h0, L, R, e, hL, hR, tL, tR⟩
    · exact TreeN.up (n := 0) h (by omega)
    · subst e
      simp only [List.length_append, List.length_cons] at hm
      obtain ⟨k, rfl⟩ : ∃ k, m = k + 1 := ⟨m - 1, by omega⟩
      exact Or.inr ⟨h0, L, R, rfl, hL, hR, tL.down k (by omega), tR.down k (by omega)⟩
theorem TreeN.of (h : TreeN f rk n r l) : TreeOf f rk r l := h.down _ (by omega)
theorem TreeOf.nil : TreeOf f rk 0 [] := ⟨rfl, rfl⟩
theorem TreeOf.node (h0 : r ≠ 0) (hL : ∀ x, x ∈ L → rk x < rk r) (hR : ∀ x, x ∈ R → rk x < rk r) (tL : TreeOf f rk (f (r + 8)) L) (tR : TreeOf f rk (f (r + 16)) R) : TreeOf f rk r (L ++ r :: R) :=
  TreeN.of (n := L.length + R.length + 1) (Or.inr ⟨h0, L, R, rfl, hL, hR, TreeN.up tL (by omega), TreeN.up tR (by omega)⟩)
theorem TreeOf.cases (h : TreeOf f rk r l) : (r = 0 ∧ l = []) ∨ (r ≠ 0 ∧ ∃ L R, l = L ++ r :: R ∧ (∀ x, x ∈ L → rk x < rk r) ∧ (∀ x, x ∈ R → rk x < rk r) ∧ TreeOf f rk (f (r + 8)) L ∧ TreeOf f rk (f (r + 16)) R) := by
  unfold TreeOf at h
  generalize hn : l.length = n at h
  cases n with
  | zero => exact Or.inl h
  | succ n =>
    rcases h with h | ⟨h0, L, R, e, hL, hR, tL, tR⟩
    · exact Or.inl h
    · exact Or.inr ⟨h0, L, R, e, hL, hR, tL.of, tR.of⟩
theorem TreeOf.zero (h : TreeOf f rk 0 l) : l = [] := by
  rcases h.cases with h | ⟨h0, _⟩
  · exact h.2
  · exact absurd rfl h0
theorem TreeOf.none (h : TreeOf f rk r []) : r = 0 := by
  rcases h.cases with h | ⟨h0, L, R, e, _⟩
  · exact h.1
  · simp at e
theorem TreeOf.some (h : TreeOf f rk r l) (h0 : r ≠ 0) : ∃ L R, l = L ++ r :: R ∧ (∀ x, x ∈ L → rk x < rk r) ∧ (∀ x, x ∈ R → rk x < rk r) ∧ TreeOf f rk (f (r + 8)) L ∧ TreeOf f rk (f (r + 16)) R := by
  rcases h.cases with h | h
  · exact absurd h.1 h0
  · exact h.2
theorem TreeOf.mem (h : TreeOf f rk r l) (h0 : r ≠ 0) : r ∈ l := by
  obtain ⟨L, R, e, _⟩ := h.some h0
  subst e; simp
theorem TreeN.frame : ∀ {n r : Nat} {l : List Nat}, TreeN f rk n r l → (∀ x, x ∈ l → g (x + 8) = f (x + 8) ∧ g (x + 16) = f (x + 16)) → TreeN g rk n r l
  | 0, r, l, h, _ => h
  | n + 1, r, l, h, hg => by
    rcases h with h | ⟨h0, L, R, e, hL, hR, tL, tR⟩
    · exact Or.inl h
    · subst e
      obtain ⟨e8, e16⟩ := hg r (by simp)
      refine Or.inr ⟨h0, L, R, rfl, hL, hR, ?_, ?_⟩
      · rw [e8]; exact tL.frame fun x hx => hg x (by simp [hx])
      · rw [e16]; exact tR.frame fun x hx => hg x (by simp [hx])
theorem TreeOf.frame (h : TreeOf f rk r l) (hg : ∀ x, x ∈ l → g (x + 8) = f (x + 8) ∧ g (x + 16) = f (x + 16)) : TreeOf g rk r l := TreeN.frame h hg
theorem root_split : ∀ {L L' R R' : List Nat} {r s : Nat}, L ++ r :: R = L' ++ s :: R' → (∀ x, x ∈ L → rk x < rk r) → (∀ x, x ∈ R → rk x < rk r) → (∀ x, x ∈ L' → rk x < rk s) → (∀ x, x ∈ R' → rk x < rk s) → L = L' ∧ r = s ∧ R = R'
  | [], [], R, R', r, s, e, _, _, _, _ => by simp only [List.nil_append, List.cons.injEq] at e; exact ⟨rfl, e.1, e.2⟩
  | [], b :: L', R, R', r, s, e, hL, hR, hL', hR' => by
    simp only [List.nil_append, List.cons_append, List.cons.injEq] at e
    obtain ⟨rfl, rfl⟩ := e
    have h1 := hR s (by simp)
    have h2 := hL' r (by simp)
    omega
  | a :: L, [], R, R', r, s, e, hL, hR, hL', hR' => by
    simp only [List.nil_append, List.cons_append, List.cons.injEq] at e
    obtain ⟨rfl, rfl⟩ := e
    have h1 := hR' r (by simp)
    have h2 := hL a (by simp)
    omega
  | a :: L, b :: L', R, R', r, s, e, hL, hR, hL', hR' => by
    simp only [List.cons_append, List.cons.injEq] at e
    obtain ⟨rfl, e⟩ := e
    obtain ⟨h1, h2, h3⟩ := root_split e (fun x hx => hL x (by simp [hx])) hR (fun x hx => hL' x (by simp [hx])) hR'
    exact ⟨by rw [h1], h2, h3⟩
theorem TreeN.same : ∀ {n m r s : Nat} {l : List Nat}, TreeN f rk n r l → TreeN g rk m s l → r = s ∧ ∀ x, x ∈ l → f (x + 8) = g (x + 8) ∧ f (x + 16) = g (x + 16)
  | 0, m, r, s, l, h, k => by
    obtain ⟨rfl, rfl⟩ := h
    exact ⟨(TreeOf.none k.of).symm, by simp⟩
  | n + 1, m, r, s, l, h, k => by
    rcases h with h | ⟨h0, L, R, e, hL, hR, tL, tR⟩
    · obtain ⟨rfl, rfl⟩ := h
      exact ⟨(TreeOf.none k.of).symm, by simp⟩
    · subst e
      rcases TreeOf.cases k.of with k | ⟨k0, L', R', e, kL, kR, uL, uR⟩
      · have := k.2; simp at this
      · obtain ⟨rfl, rfl, rfl⟩ := root_split e hL hR kL kR
        obtain ⟨a1, a2⟩ := tL.same uL
        obtain ⟨b1, b2⟩ := tR.same uR
        refine ⟨rfl, fun x hx => ?_⟩
        simp only [List.mem_append, List.mem_cons] at hx
        rcases hx with hx | hx | hx
        · exact a2 x hx
        · subst hx; exact ⟨a1, b1⟩
        · exact b2 x hx
theorem TreeOf.same (h : TreeOf f rk r l) (k : TreeOf g rk s l) : r = s ∧ ∀ x, x ∈ l → f (x + 8) = g (x + 8) ∧ f (x + 16) = g (x + 16) := TreeN.same h k
theorem TreeOf.carry (h : TreeOf f rk r l) (hg : ∀ x, x ∈ l → g (x + 8) = f (x + 8) ∧ g (x + 16) = f (x + 16)) (hs : s = r) : TreeOf g rk s l := by rw [hs]; exact h.frame hg
end
end Go.Proofs.YtcbdbflgfhbikaaGreat
namespace Go.Proofs.YtcbdbflgfhbikaaGreat
structure Apart (root : Nat) (A : Nat → Prop) : Prop where
  far : ∀ x y, A x → A y → x ≠ y → x + 24 ≤ y ∨ y + 24 ≤ x
  root : ∀ x, A x → x + 8 ≠ root ∧ x + 16 ≠ root
structure Hole (f rk : Nat → Nat) (root : Nat) (A : Nat → Prop) (lk : Nat) (pre post : List Nat) (P : Nat → Prop) : Prop where
  apart : Apart root A
  sub : ∀ x, x ∈ pre ++ post → A x
  link : lk = root ∨ ∃ x, x ∈ pre ++ post ∧ (lk = x + 8 ∨ lk = x + 16)
  fill : ∀ (g : Nat → Nat) (m : List Nat), (∀ x, x ∈ pre ++ post → (x + 8 ≠ lk → g (x + 8) = f (x + 8)) ∧ (x + 16 ≠ lk → g (x + 16) = f (x + 16))) → (root ≠ lk → g root = f root) → (∀ x, x ∈ m → P x) → TreeOf g rk (g lk) m → TreeOf g rk (g root) (pre ++ m ++ post)
section
variable {f g rk : Nat → Nat} {root lk n v : Nat} {A P : Nat → Prop} {pre post l L R m : List Nat}
theorem mem_outL {y : Nat} (h : y ∈ pre ++ post) : y ∈ pre ++ (n :: (R ++ post)) := by
  rcases List.mem_append.1 h with h | h
  · simp [h]
  · simp [h]
theorem mem_outR {y : Nat} (h : y ∈ pre ++ post) : y ∈ (pre ++ (L ++ [n])) ++ post := by
  rcases List.mem_append.1 h with h | h
  · simp [h]
  · simp [h]
theorem mem_mid {y : Nat} (h : y ∈ m) : y ∈ pre ++ m ++ post := by simp [h]
theorem Apart.son {x y : Nat} (h : Apart root A) (hx : A x) (hy : A y) (hn : x ≠ y) : x + 8 ≠ y + 8 ∧ x + 8 ≠ y + 16 ∧ x + 16 ≠ y + 8 ∧ x + 16 ≠ y + 16 := by
  have := h.far x y hx hy hn
  omega
theorem Hole.start (h : Apart root A) : Hole f rk root A root [] [] fun _ => True where
  apart := h
  sub := fun x hx => by simp at hx
  link := .inl rfl
  fill := fun g m _ _ _ ht => by simpa using ht
theorem Hole.off {x : Nat} (h : Hole f rk root A lk pre post P) (hx : A x) (hn : x ∉ pre ++ post) : x + 8 ≠ lk ∧ x + 16 ≠ lk := by
  rcases h.link with e | ⟨y, hy, e⟩
  · rw [e]; exact h.apart.root x hx
  · have := h.apart.son hx (h.sub y hy) fun e => hn (e ▸ hy)
    omega
theorem Hole.frame (h : Hole f rk root A lk pre post P) (hg : ∀ x, x ∈ pre ++ post → (x + 8 ≠ lk → g (x + 8) = f (x + 8)) ∧ (x + 16 ≠ lk → g (x + 16) = f (x + 16))) (hr : root ≠ lk → g root = f root) : Hole g rk root A lk pre post P where
  apart := h.apart
  sub := h.sub
  link := h.link
  fill := fun k m hk hkr hP ht => h.fill k m (fun x hx => ⟨fun e => ((hk x hx).1 e).trans ((hg x hx).1 e), fun e => ((hk x hx).2 e).trans ((hg x hx).2 e)⟩) (fun e => (hkr e).trans (hr e)) hP ht
theorem Hole.left (h : Hole f rk root A lk pre post P) (hn : f lk = n) (h0 : n ≠ 0) (hA : ∀ x, x ∈ n :: R → A x) (hnn : n ∉ pre ++ post) (hnR : n ∉ R) (hP : ∀ x, x ∈ n :: R → P x) (hR : ∀ x, x ∈ R → rk x < rk n) (hoff : ∀ x, x ∈ R → x ∉ pre ++ post) (tR : TreeOf f rk (f (n + 16)) R) :
    Hole f rk root A (n + 8) pre (n :: (R ++ post)) (fun y => P y ∧ rk y < rk n) where
  apart := h.apart
  sub := fun x hx => by
    simp only [List.mem_append, List.mem_cons] at hx
    rcases hx with hx | hx | hx | hx
    · exact h.sub x (by simp [hx])
    · exact hA x (by simp [hx])
    · exact hA x (by simp [hx])
    · exact h.sub x (by simp [hx])
  link := .inr ⟨n, by simp, .inl rfl⟩
  fill := fun g m hg hr hm ht => by
    have hAn := hA n (by simp)
    have ho := h.off hAn hnn
    have hlk : g lk = n := by
      rcases h.link with e | ⟨y, hy, e⟩
      · rw [e, hr (fun e => by have := (h.apart.root n hAn).1; omega), ← e, hn]
      · have hy' : y ≠ n := fun e => hnn (e ▸ hy)
        have hs := h.apart.son (h.sub y hy) hAn hy'
        have hgy := hg y (mem_outL hy)
        rcases e with e | e
        · rw [e, hgy.1 hs.1, ← e, hn]
        · rw [e, hgy.2 hs.2.2.1, ← e, hn]
    have e16 : g (n + 16) = f (n + 16) := (hg n (by simp)).2 (by omega)
    have hT : TreeOf g rk (g lk) (m ++ n :: R) := by
      rw [hlk]
      refine TreeOf.node h0 (fun x hx => (hm x hx).2) hR ht ?_
      rw [e16]
      refine tR.frame fun x hx => ?_
      have hs := h.apart.son (hA x (by simp [hx])) hAn (fun e => hnR (e ▸ hx))
      have hgx := hg x (by simp [hx])
      exact ⟨hgx.1 hs.1, hgx.2 hs.2.2.1⟩
    have := h.fill g (m ++ n :: R) (fun x hx => ?_) (fun e => hr (fun e => by have := (h.apart.root n hAn).1; omega)) (fun x hx => ?_) hT
    · simpa using this
    · have hs := h.apart.son (h.sub x hx) hAn (fun e => hnn (e ▸ hx))
      have hgx := hg x (mem_outL hx)
      exact ⟨fun _ => hgx.1 hs.1, fun _ => hgx.2 hs.2.2.1⟩
    · simp only [List.mem_append] at hx
      rcases hx with hx | hx
      · exact (hm x hx).1
      · exact hP x hx
theorem Hole.right (h : Hole f rk root A lk pre post P) (hn : f lk = n) (h0 : n ≠ 0) (hA : ∀ x, x ∈ n :: L → A x) (hnn : n ∉ pre ++ post) (hnL : n ∉ L) (hP : ∀ x, x ∈ n :: L → P x) (hL : ∀ x, x ∈ L → rk x < rk n) (hoff : ∀ x, x ∈ L → x ∉ pre ++ post) (tL : TreeOf f rk (f (n + 8)) L) :
    Hole f rk root A (n + 16) (pre ++ (L ++ [n])) post (fun y => P y ∧ rk y < rk n) where
  apart := h.apart
  sub := fun x hx => by
    simp only [List.mem_append, List.mem_cons, List.not_mem_nil, or_false] at hx
    rcases hx with (hx | hx | hx) | hx
    · exact h.sub x (by simp [hx])
    · exact hA x (by simp [hx])
    · exact hA x (by simp [hx])
    · exact h.sub x (by simp [hx])
  link := .inr ⟨n, by simp, .inr rfl⟩
  fill := fun g m hg hr hm ht => by
    have hAn := hA n (by simp)
    have ho := h.off hAn hnn
    have hlk : g lk = n := by
      rcases h.link with e | ⟨y, hy, e⟩
      · rw [e, hr (fun e => by have := (h.apart.root n hAn).2; omega), ← e, hn]
      · have hy' : y ≠ n := fun e => hnn (e ▸ hy)
        have hs := h.apart.son (h.sub y hy) hAn hy'
        have hgy := hg y (mem_outR hy)
        rcases e with e | e
        · rw [e, hgy.1 hs.2.1, ← e, hn]
        · rw [e, hgy.2 hs.2.2.2, ← e, hn]
    have e8 : g (n + 8) = f (n + 8) := (hg n (by simp)).1 (by omega)
    have hT : TreeOf g rk (g lk) (L ++ n :: m) := by
      rw [hlk]
      refine TreeOf.node h0 hL (fun x hx => (hm x hx).2) ?_ ht
      rw [e8]
      refine tL.frame fun x hx => ?_
      have hs := h.apart.son (hA x (by simp [hx])) hAn (fun e => hnL (e ▸ hx))
      have hgx := hg x (by simp [hx])
      exact ⟨hgx.1 hs.2.1, hgx.2 hs.2.2.2⟩
    have := h.fill g (L ++ n :: m) (fun x hx => ?_) (fun e => hr (fun e => by have := (h.apart.root n hAn).2; omega)) (fun x hx => ?_) hT
    · simpa using this
    · have hs := h.apart.son (h.sub x hx) hAn (fun e => hnn (e ▸ hx))
      have hgx := hg x (mem_outR hx)
      exact ⟨fun _ => hgx.1 hs.2.1, fun _ => hgx.2 hs.2.2.2⟩
    · simp only [List.mem_append, List.mem_cons] at hx
      rcases hx with hx | hx | hx
      · exact hP x (by simp [hx])
      · exact hP x (by simp [hx])
      · exact (hm x hx).1
theorem Hole.put (h : Hole f rk root A lk pre post P) (hg : ∀ k, k ≠ lk → g k = f k) : Hole g rk root A lk pre post P :=
  h.frame (fun x _ => ⟨fun e => hg _ e, fun e => hg _ e⟩) fun e => hg _ e
theorem Hole.keeps (h : Hole f rk root A lk pre post P) (hg : ∀ k, k ≠ lk → g k = f k) (hA : ∀ x, x ∈ m → A x) (hn : ∀ x, x ∈ m → x ∉ pre ++ post) (ht : TreeOf f rk v m) : TreeOf g rk v m :=
  ht.frame fun x hx => by
    have := h.off (hA x hx) (hn x hx)
    exact ⟨hg _ this.1, hg _ this.2⟩
end
end Go.Proofs.YtcbdbflgfhbikaaGreat
namespace Go.Proofs.YtcbdbflgfhbikaaGreat
def keyLt (z : Nat → Nat) (a s o : Nat) : Prop := z a < s ∨ (z a = s ∧ a < o)
instance {z : Nat → Nat} {a s o : Nat} : Decidable (keyLt z a s o) := by unfold keyLt; infer_instance
def blkLt (z : Nat → Nat) (a b : Nat) : Prop := keyLt z a (z b) b
instance {z : Nat → Nat} {a b : Nat} : Decidable (blkLt z a b) := by unfold blkLt; infer_instance
def Rising (z : Nat → Nat) (l : List Nat) : Prop := l.Pairwise (blkLt z)
def insK (z : Nat → Nat) (x : Nat) (l : List Nat) : List Nat := l.takeWhile (fun y => decide (¬ blkLt z x y)) ++ x :: l.dropWhile (fun y => decide (¬ blkLt z x y))
def srtK (z : Nat → Nat) (l : List Nat) : List Nat := l.foldl (fun o x => insK z x o) []
section
variable {z : Nat → Nat} {a b c s o x : Nat} {l k : List Nat}
theorem blkLt.irr : ¬ blkLt z a a := by unfold blkLt keyLt; omega
theorem blkLt.trans (h : blkLt z a b) (k : blkLt z b c) : blkLt z a c := by unfold blkLt keyLt at *; omega
theorem blkLt.anti (h : blkLt z a b) : ¬ blkLt z b a := by unfold blkLt keyLt at *; omega
theorem blkLt.total (h : ¬ blkLt z a b) (hn : a ≠ b) : blkLt z b a := by unfold blkLt keyLt at *; omega
theorem blkLt.ne (h : blkLt z a b) : a ≠ b := by rintro rfl; exact blkLt.irr h
theorem Rising.nodup (h : Rising z l) : l.Nodup := List.Pairwise.imp (fun h => h.ne) h
theorem rising_ext : ∀ {l k : List Nat}, Rising z l → Rising z k → (∀ x, x ∈ l ↔ x ∈ k) → l = k
  | [], [], _, _, _ => rfl
  | [], b :: k, _, _, h => by have := (h b).2 (by simp); simp at this
  | a :: l, [], _, _, h => by have := (h a).1 (by simp); simp at this
  | a :: l, b :: k, hl, hk, h => by
    have hl' := List.pairwise_cons.1 hl
    have hk' := List.pairwise_cons.1 hk
    have hab : a = b := by
      rcases List.mem_cons.1 ((h a).1 (by simp)) with e | e
      · exact e
      · rcases List.mem_cons.1 ((h b).2 (by simp)) with e' | e'
        · exact e'.symm
        · exact absurd (hk'.1 a e) (hl'.1 b e').anti
    subst hab
    rw [rising_ext hl'.2 hk'.2]
    intro x
    have hx := h x
    simp only [List.mem_cons] at hx
    constructor
    · intro hm
      rcases hx.1 (Or.inr hm) with e | e
      · subst e; exact absurd (hl'.1 x hm) blkLt.irr
      · exact e
    · intro hm
      rcases hx.2 (Or.inr hm) with e | e
      · subst e; exact absurd (hk'.1 x hm) blkLt.irr
      · exact e
theorem insK_perm : (insK z x l).Perm (x :: l) := by
  unfold insK
  refine List.perm_middle.trans ?_
  rw [List.takeWhile_append_dropWhile]
theorem insK_mem : a ∈ insK z x l ↔ a = x ∨ a ∈ l := by rw [insK_perm.mem_iff]; simp
theorem insK_cons : insK z x (a :: l) = if blkLt z x a then x :: a :: l else a :: insK z x l := by
  unfold insK
  by_cases h : blkLt z x a <;> simp [List.takeWhile_cons, List.dropWhile_cons, h]
theorem insK_rising : ∀ {l : List Nat}, Rising z l → x ∉ l → Rising z (insK z x l)
  | [], _, _ => by simp [insK, Rising]
  | a :: l, h, hn => by
    have h' := List.pairwise_cons.1 h
    rw [insK_cons]
    by_cases c : blkLt z x a
    · rw [if_pos c]
      refine List.pairwise_cons.2 ⟨?_, h⟩
      intro y hy
      rcases List.mem_cons.1 hy with e | e
      · subst e; exact c
      · exact c.trans (h'.1 y e)
    · rw [if_neg c]
      refine List.pairwise_cons.2 ⟨?_, insK_rising h'.2 fun hm => hn (by simp [hm])⟩
      intro y hy
      rcases insK_mem.1 hy with e | e
      · subst e; exact blkLt.total c (by intro e; apply hn; simp [e])
      · exact h'.1 y e
theorem srtK_snoc : srtK z (l ++ [x]) = insK z x (srtK z l) := by simp [srtK, List.foldl_append]
theorem srtK_foldl_perm : ∀ {l o : List Nat}, (l.foldl (fun o x => insK z x o) o).Perm (l ++ o)
  | [], o => List.Perm.refl _
  | x :: l, o => by
    simp only [List.foldl_cons, List.cons_append]
    refine (srtK_foldl_perm (l := l)).trans ?_
    refine (List.Perm.append_left l insK_perm).trans ?_
    exact List.perm_middle
theorem srtK_perm : (srtK z l).Perm l := by
  have := srtK_foldl_perm (z := z) (l := l) (o := [])
  simpa [srtK] using this
theorem srtK_mem : a ∈ srtK z l ↔ a ∈ l := srtK_perm.mem_iff
theorem srtK_length : (srtK z l).length = l.length := srtK_perm.length_eq
theorem srtK_rising_go : ∀ {l o : List Nat}, Rising z o → (∀ x, x ∈ l → x ∉ o) → l.Nodup → Rising z (l.foldl (fun o x => insK z x o) o)
  | [], o, h, _, _ => h
  | x :: l, o, h, hn, hd => by
    have hd' := List.nodup_cons.1 hd
    simp only [List.foldl_cons]
    refine srtK_rising_go (insK_rising h (hn x (by simp))) ?_ hd'.2
    intro y hy hm
    rcases insK_mem.1 hm with e | e
    · subst e; exact hd'.1 hy
    · exact hn y (by simp [hy]) e
theorem srtK_rising (h : l.Nodup) : Rising z (srtK z l) := srtK_rising_go (by simp [Rising]) (by simp) h
theorem srtK_ext (h : Rising z k) (hn : l.Nodup) (hm : ∀ x, x ∈ l ↔ x ∈ k) : srtK z l = k :=
  rising_ext (srtK_rising hn) h fun x => by rw [srtK_mem]; exact hm x
theorem srtK_of_perm (h : l.Perm k) (hn : l.Nodup) : srtK z l = srtK z k :=
  srtK_ext (srtK_rising (h.nodup_iff.1 hn)) hn fun x => by rw [srtK_mem]; exact h.mem_iff
theorem Rising.congr {y : Nat → Nat} (h : Rising z l) (hy : ∀ a, a ∈ l → y a = z a) : Rising y l := by
  unfold Rising at *
  refine List.Pairwise.imp_of_mem ?_ h
  intro a b ha hb hab
  unfold blkLt keyLt at *
  rw [hy a ha, hy b hb]; exact hab
theorem srtK_congr {y : Nat → Nat} (hn : l.Nodup) (h : ∀ a, a ∈ l → y a = z a) : srtK y l = srtK z l :=
  srtK_ext ((srtK_rising hn).congr fun a ha => h a (srtK_mem.1 ha)) hn fun x => srtK_mem.symm
theorem Rising.filter (h : Rising z l) (p : Nat → Bool) : Rising z (l.filter p) := List.Pairwise.filter _ h
theorem srtK_erase (hn : l.Nodup) : srtK z (l.filter fun a => a ≠ x) = (srtK z l).filter fun a => a ≠ x :=
  srtK_ext ((srtK_rising hn).filter _) (hn.filter _) fun a => by simp only [List.mem_filter, srtK_mem]
theorem insK_right : ∀ {l k : List Nat}, (∀ y, y ∈ l → ¬ blkLt z x y) → insK z x (l ++ k) = l ++ insK z x k
  | [], k, _ => rfl
  | a :: l, k, h => by
    rw [List.cons_append, insK_cons, if_neg (h a (by simp)), insK_right fun y hy => h y (by simp [hy])]
    rfl
theorem Rising.ahead {r : Nat} (h : Rising z (l ++ r :: k)) : (∀ y, y ∈ l → blkLt z y r) ∧ (∀ y, y ∈ k → blkLt z r y) ∧ Rising z l ∧ Rising z k := by
  obtain ⟨h1, h2, h3⟩ := List.pairwise_append.1 h
  have h2' := List.pairwise_cons.1 h2
  exact ⟨fun y hy => h3 y hy r (by simp), h2'.1, h1, h2'.2⟩
theorem filter_not (h : x ∉ l) : l.filter (fun a => decide (a ≠ x)) = l := by
  rw [List.filter_eq_self]
  intro a ha
  have : a ≠ x := by rintro rfl; exact h ha
  simpa using this
theorem filter_top {r : Nat} (h : Rising z (l ++ r :: k)) : (l ++ r :: k).filter (fun a => decide (a ≠ r)) = l ++ k := by
  have hl : r ∉ l := fun hm => blkLt.irr (h.ahead.1 r hm)
  have hk : r ∉ k := fun hm => blkLt.irr (h.ahead.2.1 r hm)
  rw [List.filter_append, List.filter_cons, if_neg (by simp), filter_not hl, filter_not hk]
end
end Go.Proofs.YtcbdbflgfhbikaaGreat
namespace Go.Proofs.YtcbdbflgfhbikaaGreat
open Go.RowKit
structure WordsAt (w : World) (la : Option Addr) (l : List Nat) : Prop where
  cells : 0 < l.length → ∃ b off, la = some ⟨b, off, none⟩ ∧ b < w.heap.size ∧ ∀ i, i < l.length → w.cell? ⟨b, off + i, none⟩ = some (.int .u64 (l.getD i 0 : Nat))
section
variable {w w' : World} {la : Option Addr} {l : List Nat} {base : Nat} {v : Value}
theorem WordsAt.later (h : WordsAt w la l) (hg : w.grownBy w' none) : WordsAt w' la l where
  cells := fun hn => by
    obtain ⟨b, off, h1, h2, h3⟩ := h.cells hn
    exact ⟨b, off, h1, Nat.lt_of_lt_of_le h2 hg.size, fun i hi => (World.cell?_of_block (w := w) (a := ⟨b, off + i, none⟩) (hg.block b h2 (by simp))).trans (h3 i hi)⟩
theorem WordsAt.kept {g : Nat} (h : WordsAt w la l) (hg : w.grownBy w' (some g)) (hne : ∀ a, la = some a → a.block ≠ g) : WordsAt w' la l where
  cells := fun hn => by
    obtain ⟨b, off, h1, h2, h3⟩ := h.cells hn
    refine ⟨b, off, h1, Nat.lt_of_lt_of_le h2 hg.size, fun i hi => (World.cell?_of_block (w := w) (a := ⟨b, off + i, none⟩) (hg.block b h2 ?_)).trans (h3 i hi)⟩
    have := hne _ h1
    simpa using this
theorem OwnW.lie (h : OwnW w base v l) : ∃ la c, v = .slice la l.length c ∧ WordsAt w la l := by
  rcases h.2 with ⟨h1, h2⟩ | ⟨g, cap, cur, hv, hb⟩
  · exact ⟨none, 0, by rw [h1, h2], ⟨fun hn => by omega⟩⟩
  · subst hv
    refine ⟨_, _, rfl, ⟨fun _ => ⟨g, 0, rfl, (h.lt g rfl).2, fun i hi => ?_⟩⟩⟩
    rw [Nat.zero_add]
    exact OwnW.at_ h i hi
theorem WordsAt.take (h : WordsAt w la l) (n : Nat) : WordsAt w la (l.take n) where
  cells := fun hn => by
    rw [List.length_take] at hn
    obtain ⟨b, off, h1, h2, h3⟩ := h.cells (by omega)
    refine ⟨b, off, h1, h2, fun i hi => ?_⟩
    rw [List.length_take] at hi
    rw [h3 i (by omega), List.getD_eq_getElem?_getD, List.getD_eq_getElem?_getD, List.getElem?_take, if_pos (by omega)]
theorem WordsAt.drop {b off : Nat} (h : WordsAt w (some ⟨b, off, none⟩) l) (n : Nat) : WordsAt w (some ⟨b, off + n, none⟩) (l.drop n) where
  cells := fun hn => by
    rw [List.length_drop] at hn
    obtain ⟨b', off', h1, h2, h3⟩ := h.cells (by omega)
    injection h1 with h1
    injection h1 with e1 e2
    subst e1 e2
    refine ⟨b, off + n, rfl, h2, fun i hi => ?_⟩
    rw [List.length_drop] at hi
    have := h3 (n + i) (by omega)
    rw [List.getD_eq_getElem?_getD, List.getElem?_drop, ← List.getD_eq_getElem?_getD]
    rw [Nat.add_assoc]; exact this
end
end Go.Proofs.YtcbdbflgfhbikaaGreat
namespace Go.Proofs.YtcbdbflgfhbikaaGreat
open Go.RowKit
set_option maxRecDepth 100000
theorem run_append_null {P : Program} {w : World} (base : Nat) (t ty e : TypeId) (i : TypeInfo) (size c : Nat) (ht : P.underlying t = some (.slice e)) (hi : P.info? e = some i)
    (v : Value) (n : Nat) (xs : List Value) (hown : w.ownsRow base e size v n xs) :
    (Builtin.append_ #[t, t] ty #[v, .slice none 0 c]).run P w = .ok v w := by
  rcases hown.2 with ⟨rfl, rfl⟩ | ⟨g, cap, cur, rfl, _, _, hnc, _⟩
  · simp [Builtin.append_, run_underlying ht, sizeOf, typeInfo, hi, Builtin.lenOf, Builtin.firstCells]
  · simp [Builtin.append_, run_underlying ht, sizeOf, typeInfo, hi, Builtin.lenOf, Builtin.firstCells, hnc, storeCells]
set_option maxHeartbeats 1000000 in
theorem wpList_append_words {w2 : World} {base c : Nat} {v : Value} {xs ys : List Nat} {la : Option Addr} (hown : OwnW w2 base v xs) (hp : WordsAt w2 la ys) (hm : xs.length + ys.length ≤ 1000000) (hbase : base ≤ w2.heap.size)
    {ops : Array Oper} {rest : List Oper} {o : Oper} {a : Act} {Q : Exit → Act → World → Prop} (hgd : o.guard = none) (s x : Operand)
    (ho : o.op = .call { callee := .builtin .append, args := #[s, x], argTypes := #[27, 27] })
    (hs : a.eval s = v) (hx : a.eval x = .slice la ys.length c)
    (h : ∀ v' w', OwnW w' base v' (xs ++ ys) → w2.grownBy w' v.ownBlock → wpList Tryz.prog ops Q rest (a.put o.dst v') w') :
    wpList Tryz.prog ops Q (o :: rest) a w2 := by
  obtain ⟨i0, hi, hz0, hz1, hz2⟩ := info_parts info_u64
  have hlen : (cellsU ys).length = ys.length * 1 := by simp [cellsU]
  have hfin : ∀ v' w', w'.ownsRow base 23 1 v' (xs.length + ys.length) (cellsU xs ++ cellsU ys) → OwnW w' base v' (xs ++ ys) := fun v' w' h => by
    unfold OwnW
    rw [List.length_append]
    simpa [cellsU] using h
  rcases la with _ | ad
  · have hm0 : ys = [] := by
      rcases Nat.eq_zero_or_pos ys.length with h0 | h0
      · exact List.length_eq_zero_iff.1 h0
      · obtain ⟨b, off, hb, _⟩ := hp.cells h0
        cases hb
    subst hm0
    refine wpList_plain hgd fun K hK => ?_
    have hrun := run_append_null (P := Tryz.prog) (w := w2) base 27 o.type 23 i0 1 c Tryz.underlying27 hi v xs.length (cellsU xs) hown
    unfold Oper.wp
    simp only [List.length_nil] at hx
    simp [execOp, ho, resolve, invoke, builtin, hs, hx, hrun, Result.andThen]
    exact hK _ _ (h v w2 (by simpa using hown) (grown_refl _ _))
  · refine wpList_append_own _ hgd s x 27 ho base 23 i0 (.int .u64 0) 1 8 Tryz.underlying27 hi hz0 hz1 hz2 rfl (by decide) v xs.length (cellsU xs) hs hown ad ys.length c (cellsU ys) hx hlen ?_ ?_ (by unfold maxLen; omega) (by omega) hbase fun v' w' h1 h2 _ => h v' w' (hfin v' w' h1) h2
    · intro j u hj
      have hjm : j < ys.length := by
        rcases Nat.lt_or_ge j ys.length with h' | h'
        · exact h'
        · rw [List.getElem?_eq_none (by rw [hlen]; omega)] at hj; cases hj
      obtain ⟨b, off, hb, _, hcs⟩ := hp.cells (by omega)
      injection hb with hb
      subst hb
      have hadd : (⟨b, off, none⟩ : Addr).add j = ⟨b, off + j, none⟩ := by unfold Addr.add; split <;> simp_all
      rw [hadd, hcs j hjm, ← hj]
      simp [cellsU, List.getElem?_eq_getElem hjm]
    · intro u hu
      simp only [cellsU, List.mem_map] at hu
      obtain ⟨y, _, rfl⟩ := hu
      rfl
end Go.Proofs.YtcbdbflgfhbikaaGreat
namespace Go.Proofs.YtcbdbflgfhbikaaGreat
open Go.RowKit
def cmpN (a b : Nat) : Int := if a < b then -1 else if b < a then 1 else 0
def cmpK (s o s' o' : Nat) : Int := if cmpN s s' = 0 then cmpN o o' else cmpN s s'
theorem cmpN_lt {a b : Nat} (h : a < b) : cmpN a b = -1 := if_pos h
theorem cmpN_gt {a b : Nat} (h : b < a) : cmpN a b = 1 := by unfold cmpN; rw [if_neg (by omega), if_pos h]
theorem cmpN_eq (a : Nat) : cmpN a a = 0 := by unfold cmpN; rw [if_neg (by omega), if_neg (by omega)]
theorem cmpN_three (a b : Nat) : (a < b ∧ cmpN a b = -1) ∨ (b < a ∧ cmpN a b = 1) ∨ (a = b ∧ cmpN a b = 0) := by
  rcases Nat.lt_trichotomy a b with h | h | h
  · exact .inl ⟨h, cmpN_lt h⟩
  · subst h; exact .inr (.inr ⟨rfl, cmpN_eq a⟩)
  · exact .inr (.inl ⟨h, cmpN_gt h⟩)
theorem isnan_any (x : Nat) (w : World) : Calls Tryz.prog 159 #[.int .u64 x] w fun e w' => e = .returned (.bool false) ∧ w = w' := by
  go_enter Tryz.func159, Tryz.ntmps159
  go_wp2
  go_ret
  exact ⟨rfl, rfl⟩
theorem compare_u64 (x y : Nat) (w : World) : Calls Tryz.prog 145 #[.int .u64 x, .int .u64 y] w fun e w' => e = .returned (.int .i64 (cmpN x y)) ∧ w = w' := by
  have hn := fun x => isnan_any x w
  rcases cmpN_three x y with ⟨h, e⟩ | ⟨h, e⟩ | ⟨h, e⟩
  · rw [e]
    have h1 : (x : Int) < (y : Int) := by omega
    go_enter Tryz.func145, Tryz.ntmps145
    go_wp2_with (go_at_call 159; (with_reducible refine (hn _).mono ?_); rintro e w1 ⟨rfl, rfl⟩)
    go_ret
    exact ⟨rfl, rfl⟩
  · rw [e]
    have h1 : ¬ (x : Int) < (y : Int) := by omega
    have h2 : (y : Int) < (x : Int) := by omega
    go_enter Tryz.func145, Tryz.ntmps145
    go_wp2_with (go_at_call 159; (with_reducible refine (hn _).mono ?_); rintro e w1 ⟨rfl, rfl⟩)
    go_ret
    exact ⟨rfl, rfl⟩
  · rw [e]
    subst h
    go_enter Tryz.func145, Tryz.ntmps145
    go_wp2_with (go_at_call 159; (with_reducible refine (hn _).mono ?_); rintro e w1 ⟨rfl, rfl⟩)
    go_ret
    exact ⟨rfl, rfl⟩
theorem or_two (p q : Int) (b c : Nat) (w : World) (h0 : w.cell? ⟨b, 0, none⟩ = some (.int .i64 p)) (h1 : w.cell? ⟨b, 1, none⟩ = some (.int .i64 q)) : Calls Tryz.prog 144 #[.slice (some ⟨b, 0, none⟩) 2 c] w fun e w' => e = .returned (.int .i64 (if p = 0 then q else p)) ∧ w = w' := by
  go_enter Tryz.func144, Tryz.ntmps144
  go_wp2
  go_loop [8] (fun i => ∃ k : Nat, k ≤ 2 ∧ i = .int .i64 k ∧ (1 ≤ k → p = 0) ∧ (k = 2 → q = 0)) (fun i => 2 - (intOf i).toNat)
  case atStart => exact ⟨0, by omega, rfl, by omega, by omega⟩
  case round =>
    obtain ⟨k, hk, rfl, hp, hq⟩ := hrel
    rcases k with _ | _ | _ | k
    · by_cases h : p = 0
      · subst h
        go_wp2
        go_round
        case rel => exact ⟨1, by omega, by go_num, by simp, by omega⟩
        case measure => simp [intOf]
      · go_wp2
        go_ret
        exact ⟨rfl, rfl⟩
    · obtain rfl := hp (by omega)
      by_cases h : q = 0
      · subst h
        go_wp2
        go_round
        case rel => exact ⟨2, by omega, by go_num, by simp, by simp⟩
        case measure => simp [intOf]
      · go_wp2
        go_ret
        exact ⟨by simp, rfl⟩
    · obtain rfl := hp (by omega)
      obtain rfl := hq (by omega)
      go_wp2
      go_ret
      exact ⟨by simp, rfl⟩
    · omega
theorem two_held {w w' : World} {x y : Value} {t : TypeId} {b : Nat} (h : w.heap[b]? = some (.cells #[x, y] t (0, 0))) (hg : w.grownBy w' none) : w'.heap[b]? = some (.cells #[x, y] t (0, 0)) := (hg.block _ (lt_of_block h) (by simp)).trans h
set_option maxHeartbeats 1000000 in
theorem tcompare_any (s o s' o' : Nat) (w : World) : Calls Tryz.prog 127 #[.agg #[.int .u64 s, .int .u64 o], .agg #[.int .u64 s', .int .u64 o']] w fun e w' => e = .returned (.int .i64 (cmpK s o s' o')) ∧ ∃ q os, w' = Go.Sort.grow (w.drewN q) os := by
  have hc := fun x y w => compare_u64 x y w
  have ho := fun p q b c w h0 h1 => or_two p q b c w h0 h1
  unfold cmpK
  obtain ⟨x, ex⟩ : ∃ x, cmpN s s' = x := ⟨_, rfl⟩
  obtain ⟨y, ey⟩ : ∃ y, cmpN o o' = y := ⟨_, rfl⟩
  have hc1 := fun w => compare_u64 s s' w
  have hc2 := fun w => compare_u64 o o' w
  rw [ex] at hc1
  rw [ey] at hc2
  rw [ex, ey]
  have ha : ((w.alloc (.cells #[.int .u64 s, .int .u64 o] 140)).alloc (.cells #[.int .u64 s', .int .u64 o'] 140)).heap[w.heap.size]? = some (.cells #[.int .u64 s, .int .u64 o] 140 (0, 0)) := (Below.heap_alloc _ _ _ (by simp)).trans (heap_alloc_new' w _)
  have hb : ((w.alloc (.cells #[.int .u64 s, .int .u64 o] 140)).alloc (.cells #[.int .u64 s', .int .u64 o'] 140)).heap[w.heap.size + 1]? = some (.cells #[.int .u64 s', .int .u64 o'] 140 (0, 0)) := by
    have := heap_alloc_new' (w.alloc (.cells #[.int .u64 s, .int .u64 o] 140)) (.cells #[.int .u64 s', .int .u64 o'] 140)
    rwa [World.size_alloc] at this
  obtain ⟨W, hW⟩ : ∃ W, (w.alloc (.cells #[.int .u64 s, .int .u64 o] 140)).alloc (.cells #[.int .u64 s', .int .u64 o'] 140) = W := ⟨_, rfl⟩
  rw [hW] at ha hb
  obtain ⟨a0, a1⟩ := two_cells ha
  obtain ⟨b0, b1⟩ := two_cells hb
  clear ha hb
  have hor := or_two x y W.heap.size 2 (W.alloc (.cells #[.int .i64 x, .int .i64 y] 3)).drew (two_cells (heap_alloc_new' W (.cells #[.int .i64 x, .int .i64 y] 3))).1 (two_cells (heap_alloc_new' W (.cells #[.int .i64 x, .int .i64 y] 3))).2
  obtain ⟨r, er⟩ : ∃ r, (if x = 0 then y else x) = r := ⟨_, rfl⟩
  rw [er] at hor ⊢
  clear er
  go_enter Tryz.func127, Tryz.ntmps127
  go_wp2
  go_region_held3 (fun wr => wr.cell? ⟨w.heap.size, 0, none⟩ = some (.int .u64 s) ∧ wr.cell? ⟨w.heap.size, 1, none⟩ = some (.int .u64 o) ∧ wr.cell? ⟨w.heap.size + 1, 0, none⟩ = some (.int .u64 s') ∧ wr.cell? ⟨w.heap.size + 1, 1, none⟩ = some (.int .u64 o')) (go_keep) (first | (go_at_call 145; (with_reducible refine (hc1 _).mono ?_); rintro e w1 ⟨rfl, rfl⟩) | (go_at_call 145; (with_reducible refine (hc2 _).mono ?_); rintro e w1 ⟨rfl, rfl⟩) | (go_at_call 144; (with_reducible refine hor.mono ?_); rintro e w1 ⟨rfl, rfl⟩))
  all_goals go_wp2
  go_ret
  refine ⟨rfl, 1, #[.cells #[.int .u64 s, .int .u64 o] 140, .cells #[.int .u64 s', .int .u64 o'] 140, .cells #[.int .i64 x, .int .i64 y] 3], ?_⟩
  rw [← hW]
  simp only [Go.Sort.alloc_eq_grow, Go.Sort.grow_grow, Go.Sort.drew_grow]
  rfl
theorem grow_grown (w : World) (q : Nat) (os : Array Obj) : w.grownBy (Go.Sort.grow (w.drewN q) os) none where
  os := rfl
  tape := rfl
  output := rfl
  size := by simp [Go.Sort.grow, World.drewN]
  block := fun k hk _ => by
    show (w.heap ++ os)[k]? = _
    rw [Array.getElem?_append_left hk]
theorem tcompare_grown (s o s' o' : Nat) (w : World) : Calls Tryz.prog 127 #[.agg #[.int .u64 s, .int .u64 o], .agg #[.int .u64 s', .int .u64 o']] w fun e w' => e = .returned (.int .i64 (cmpK s o s' o')) ∧ w.grownBy w' none :=
  (tcompare_any s o s' o' w).mono fun _ _ ⟨h1, q, os, h2⟩ => ⟨h1, by rw [h2]; exact grow_grown _ _ _⟩
end Go.Proofs.YtcbdbflgfhbikaaGreat
namespace Go.Proofs.YtcbdbflgfhbikaaGreat
open Go.RowKit
set_option maxRecDepth 100000
theorem wpList_append_num {w2 : World} {ops : Array Oper} {rest : List Oper} {o : Oper} {a : Act} {Q : Exit → Act → World → Prop} (hgd : o.guard = none) (s x : Operand)
    (ho : o.op = .call { callee := .builtin .append, args := #[s, x], argTypes := #[27, 27] })
    (base : Nat) (v : Value) (xs : List Nat) (hs : a.eval s = v) (hown : OwnW w2 base v xs) (y : Nat)
    (hx : a.eval x = .slice (some ⟨w2.heap.size, 0, none⟩) 1 1) (hn : xs.length ≤ 10000000) (hbase : base ≤ w2.heap.size)
    (h : ∀ v' w', OwnW w' base v' (xs ++ [y]) → w2.grownBy w' v.ownBlock → (v'.ownBlock = v.ownBlock ∨ v'.ownBlock = some (w2.heap.size + 1)) → wpList Tryz.prog ops Q rest (a.put o.dst v') w') :
    wpList Tryz.prog ops Q (o :: rest) a (w2.alloc (.cells #[.int .u64 (y : Nat)] 23)) := by
  obtain ⟨i0, hi, hz0, hz1, hz2⟩ := info_parts info_u64
  refine wpList_append_own_at _ hgd s x 27 ho base 23 i0 (.int .u64 0) 1 8 Tryz.underlying27 hi hz0 hz1 hz2 rfl (by decide) v xs.length (cellsU xs) hs (World.ownsRow.alloc hown _) ⟨w2.heap.size, 0, none⟩ 1 1 [.int .u64 (y : Nat)] hx rfl (cell_one_new _ _ _) (by simp [Value.oneCell']) (by unfold maxLen; omega) (by omega) (by rw [World.size_alloc]; omega) fun v' w' h1 h2 _ h4 => h v' w' ?_ (grown_trans (grown_any (World.grownBy_alloc _ _ none) _) h2) (by rw [World.size_alloc] at h4; exact h4)
  unfold OwnW
  have e1 : cellsU (xs ++ [y]) = cellsU xs ++ [.int .u64 (y : Nat)] := by simp [cellsU]
  rw [e1, List.length_append]
  exact h1
section
variable {w : World} {base : Nat} {wv pv : Value} {ws : List Nat} {l : List (Nat × Nat)}
end
end Go.Proofs.YtcbdbflgfhbikaaGreat
namespace Go.Proofs.YtcbdbflgfhbikaaGreat
set_option maxRecDepth 100000
def sortNode_ren : Go.Shelf.Ren := ⟨fun | 6 => 125 | 15 => 143 | 14 => 142 | 28 => 157 | 29 => 158 | 20 => 149 | 21 => 150 | 22 => 151 | 23 => 152 | 24 => 153 | 25 => 154 | 26 => 155 | 27 => 156 | 46 => 161 | 47 => 162 | 48 => 163 | 49 => 164 | 50 => 165 | 57 => 166 | n => n, fun | 22 => 136 | 24 => 142 | 25 => 180 | 3 => 3 | 39 => 146 | 0 => 0 | 53 => 209 | 55 => 23 | 4 => 4 | 46 => 202 | 45 => 201 | 50 => 206 | 5 => 5 | 9 => 9 | 66 => 212 | 70 => 215 | 76 => 217 | 77 => 218 | n => n, fun | n => n⟩
theorem sortNode : Go.Proofs.SlLaysF0.n6 Tryz.prog sortNode_ren where
  mixed := by kernel_rfl
  f6 := ⟨(Tryz.f125).name, by kernel_rfl, Tryz.func125.trans (congrArg some (by kernel_rfl))⟩
  f14 := ⟨(Tryz.f142).name, by kernel_rfl, Tryz.func142.trans (congrArg some (by kernel_rfl))⟩
  f15 := Tryz.func143.trans (congrArg some (by kernel_rfl))
  f20 := ⟨(Tryz.f149).name, by kernel_rfl, Tryz.func149.trans (congrArg some (by kernel_rfl))⟩
  f21 := ⟨(Tryz.f150).name, by kernel_rfl, Tryz.func150.trans (congrArg some (by kernel_rfl))⟩
  f22 := ⟨(Tryz.f151).name, by kernel_rfl, Tryz.func151.trans (congrArg some (by kernel_rfl))⟩
  f23 := ⟨(Tryz.f152).name, by kernel_rfl, Tryz.func152.trans (congrArg some (by kernel_rfl))⟩
  f24 := ⟨(Tryz.f153).name, by kernel_rfl, Tryz.func153.trans (congrArg some (by kernel_rfl))⟩
  f25 := ⟨(Tryz.f154).name, by kernel_rfl, Tryz.func154.trans (congrArg some (by kernel_rfl))⟩
  f26 := ⟨(Tryz.f155).name, by kernel_rfl, Tryz.func155.trans (congrArg some (by kernel_rfl))⟩
  f27 := ⟨(Tryz.f156).name, by kernel_rfl, Tryz.func156.trans (congrArg some (by kernel_rfl))⟩
  f28 := Tryz.func157.trans (congrArg some (by kernel_rfl))
  f29 := Tryz.func158.trans (congrArg some (by kernel_rfl))
  f46 := ⟨(Tryz.f161).name, by kernel_rfl, Tryz.func161.trans (congrArg some (by kernel_rfl))⟩
  f47 := Tryz.func162.trans (congrArg some (by kernel_rfl))
  f48 := Tryz.func163.trans (congrArg some (by kernel_rfl))
  f49 := ⟨(Tryz.f164).name, by kernel_rfl, Tryz.func164.trans (congrArg some (by kernel_rfl))⟩
  f50 := ⟨(Tryz.f165).name, by kernel_rfl, Tryz.func165.trans (congrArg some (by kernel_rfl))⟩
  f57 := ⟨(Tryz.f166).name, by kernel_rfl, Tryz.func166.trans (congrArg some (by kernel_rfl))⟩
  t0 := Tryz.underlying0
  a0 := Tryz.isAgg0
  z0 := Tryz.sizeOf0
  v0 := Tryz.zeroValue0
  t3 := Tryz.underlying3
  a3 := Tryz.isAgg3
  z3 := Tryz.sizeOf3
  v3 := Tryz.zeroValue3
  t4 := Tryz.underlying4
  a4 := Tryz.isAgg4
  z4 := Tryz.sizeOf4
  v4 := Tryz.zeroValue4
  t5 := Tryz.underlying5
  a5 := Tryz.isAgg5
  z5 := Tryz.sizeOf5
  v5 := Tryz.zeroValue5
  t9 := Tryz.underlying9
  a9 := Tryz.isAgg9
  z9 := Tryz.sizeOf9
  v9 := Tryz.zeroValue9
  t22 := Tryz.underlying136
  a22 := Tryz.isAgg136
  z22 := Tryz.sizeOf136
  v22 := Tryz.zeroValue136
  t25 := Tryz.underlying180
  a25 := Tryz.isAgg180
  z25 := Tryz.sizeOf180
  v25 := Tryz.zeroValue180
  t39 := Tryz.underlying146
  a39 := Tryz.isAgg146
  z39 := Tryz.sizeOf146
  v39 := Tryz.zeroValue146
  t45 := Tryz.underlying201
  a45 := Tryz.isAgg201
  z45 := Tryz.sizeOf201
  v45 := Tryz.zeroValue201
  t46 := Tryz.underlying202
  a46 := Tryz.isAgg202
  z46 := Tryz.sizeOf202
  v46 := Tryz.zeroValue202
  t50 := Tryz.underlying206
  a50 := Tryz.isAgg206
  z50 := Tryz.sizeOf206
  v50 := Tryz.zeroValue206
  t53 := Tryz.underlying209
  a53 := Tryz.isAgg209
  z53 := Tryz.sizeOf209
  v53 := Tryz.zeroValue209
  t55 := Tryz.underlying23
  a55 := Tryz.isAgg23
  z55 := Tryz.sizeOf23
  v55 := Tryz.zeroValue23
  t66 := Tryz.underlying212
  a66 := Tryz.isAgg212
  z66 := Tryz.sizeOf212
  v66 := Tryz.zeroValue212
  t70 := Tryz.underlying215
  a70 := Tryz.isAgg215
  z70 := Tryz.sizeOf215
  v70 := Tryz.zeroValue215
  t76 := Tryz.underlying217
  a76 := Tryz.isAgg217
  z76 := Tryz.sizeOf217
  v76 := Tryz.zeroValue217
  t77 := Tryz.underlying218
  a77 := Tryz.isAgg218
  z77 := Tryz.sizeOf218
  v77 := Tryz.zeroValue218
end Go.Proofs.YtcbdbflgfhbikaaGreat
