/-
  Texts of one layer, one behind the other: memory, contracts of the functions, and what follows of them.
  Conditions: as each theorem says.
-/
import Derived.Test.YtcbdbflgfhbikaaGreatLPha
import Derived.Test.YtcbdbflgfhbikaaGreatLTaa
import Derived.Test.YtcbdbflgfhbikaaGreatLPhc
import Derived.Test.YtcbdbflgfhbikaaGreatLTra
set_option linter.unusedVariables false
set_option linter.unusedSimpArgs false
namespace Go.Proofs.YtcbdbflgfhbikaaGreat
open Go.RowKit
section
variable {l : List (Nat × Nat)} {off n : Nat}
structure FreeL (l : List Nat) : Prop where
  on : ∀ x, x ∈ l → x % 16 = 0 ∧ 3776 ≤ x ∧ x + 48 ≤ 4800
  apart : l.Pairwise fun x y => x + 48 ≤ y
theorem FreeL.nodup {k : List Nat} (h : FreeL k) : k.Nodup := h.apart.imp fun h => by omega
theorem far_of : ∀ {k : List Nat}, k.Pairwise (fun x y => x + 48 ≤ y) → ∀ {x y : Nat}, x ∈ k → y ∈ k → x ≠ y → x + 48 ≤ y ∨ y + 48 ≤ x
  | [], _, x, y, hx, _, _ => by simp at hx
  | a :: k, h, x, y, hx, hy, hn => by
    have h' := List.pairwise_cons.1 h
    rcases List.mem_cons.1 hx with ex | kx
    · rcases List.mem_cons.1 hy with ey | ky
      · omega
      · rw [ex]; exact .inl (h'.1 y ky)
    · rcases List.mem_cons.1 hy with ey | ky
      · rw [ey]; exact .inr (h'.1 x kx)
      · exact far_of h'.2 kx ky hn
theorem FreeL.far {k : List Nat} (h : FreeL k) {x y : Nat} (hx : x ∈ k) (hy : y ∈ k) (hn : x ≠ y) : x + 48 ≤ y ∨ y + 48 ≤ x := far_of h.apart hx hy hn
end
end Go.Proofs.YtcbdbflgfhbikaaGreat
namespace Go.Proofs.YtcbdbflgfhbikaaGreat
open Go.RowKit
theorem rk_inj_of (a b C D M : Int) (h1 : (C * D) % M = 1 % M) (ha : a % M = a) (hb : b % M = b) (h : (a * C) % M = (b * C) % M) : a = b := by
  have h2 : (a * C * D) % M = (b * C * D) % M := by rw [Int.mul_emod (a * C), h, ← Int.mul_emod]
  have key : ∀ x : Int, x % M = x → (x * C * D) % M = x := by
    intro x hx
    rw [Int.mul_assoc, Int.mul_emod, h1, ← Int.mul_emod, Int.mul_one, hx]
  rw [← key a ha, ← key b hb, h2]
theorem nat_u64 (x : Nat) (hx : x < 18446744073709551616) : (x : Int) % 18446744073709551616 = x := Int.emod_eq_of_lt (by omega) (by omega)
theorem wrap_nat (y : Int) : IntKind.u64.wrap y = ((IntKind.u64.wrap y).toNat : Nat) := by rw [IntKind.wrap_u64]; omega
def rkN (x : Nat) : Nat := (IntKind.u64.wrap ((x : Int) * 11400714819323198485)).toNat
theorem rkN_wrap (x : Nat) : IntKind.u64.wrap ((x : Int) * 11400714819323198485) = (rkN x : Nat) := wrap_nat _
theorem rkN_inj {x y : Nat} (hx : x < 18446744073709551616) (hy : y < 18446744073709551616) (h : rkN x = rkN y) : x = y := by
  have h2 : IntKind.u64.wrap ((x : Int) * 11400714819323198485) = IntKind.u64.wrap ((y : Int) * 11400714819323198485) := by rw [rkN_wrap, rkN_wrap, h]
  simp only [IntKind.wrap_u64] at h2
  exact Int.ofNat.inj (rk_inj_of x y 11400714819323198485 17428512612931826493 18446744073709551616 (by decide +kernel) (nat_u64 x hx) (nat_u64 y hy) h2)
section
variable {f g rk : Nat → Nat} {F l : List Nat} {r x y : Nat}
theorem FreeL.sons (h : FreeL F) (hx : x ∈ F) {n : Nat} : stands (fmt48 n) x ∧ stands (fmt48 n) (x + 8) ∧ stands (fmt48 n) (x + 16) ∧ x < 18446744073709551616 := by
  obtain ⟨h1, h2, h3⟩ := h.on x hx
  exact ⟨stands48 (by omega) (by omega), stands48 (by omega) (by omega), stands48 (by omega) (by omega), by omega⟩
theorem FreeL.else_ (h : FreeL F) (hx : x ∈ F) (hy : y ∈ F) (hg : ∀ k, k ≠ y + 8 → k ≠ y + 16 → k ≠ 32 → g k = f k) : g x = f x ∧ (x ≠ y → g (x + 8) = f (x + 8) ∧ g (x + 16) = f (x + 16)) := by
  obtain ⟨h1, h2, h3⟩ := h.on x hx
  obtain ⟨k1, k2, k3⟩ := h.on y hy
  have hne : x ≠ y + 16 := fun e => by
    rcases h.far hx hy (by omega) with h4 | h4 <;> omega
  refine ⟨hg x (by omega) hne (by omega), fun hn => ?_⟩
  have hf := h.far hx hy hn
  exact ⟨hg _ (by omega) (by omega) (by omega), hg _ (by omega) (by omega) (by omega)⟩
theorem TreeOf.past (h : TreeOf f rk r l) (hF : FreeL F) (hl : ∀ x, x ∈ l → x ∈ F) (hy : y ∈ F) (hn : y ∉ l) (hg : ∀ k, k ≠ y + 8 → k ≠ y + 16 → k ≠ 32 → g k = f k) : TreeOf g rk r l :=
  h.frame fun x hx => (hF.else_ (hl x hx) hy hg).2 fun e => hn (e ▸ hx)
structure TreeIs (f z : Nat → Nat) (F l : List Nat) : Prop where
  free : FreeL F
  sub : ∀ x, x ∈ l → x ∈ F
  nodup : l.Nodup
  tree : TreeOf f rkN (f 32) (srtK z l)
theorem TreeIs.perm {z : Nat → Nat} {k : List Nat} (h : TreeIs f z F l) (hp : l.Perm k) : TreeIs f z F k :=
  ⟨h.free, fun x hx => h.sub x (hp.mem_iff.2 hx), hp.nodup_iff.1 h.nodup, by rw [← srtK_of_perm hp h.nodup]; exact h.tree⟩
theorem TreeIs.nil {z : Nat → Nat} (h : FreeL F) (h0 : f 32 = 0) : TreeIs f z F [] := ⟨h, by simp, by simp, by rw [h0]; exact TreeOf.nil⟩
theorem TreeIs.same {z : Nat → Nat} (h : TreeIs f z F l) (k : TreeIs g z F l) : f 32 = g 32 ∧ ∀ x, x ∈ l → f (x + 8) = g (x + 8) ∧ f (x + 16) = g (x + 16) := by
  obtain ⟨h1, h2⟩ := h.tree.same k.tree
  exact ⟨h1, fun x hx => h2 x (srtK_mem.2 hx)⟩
end
end Go.Proofs.YtcbdbflgfhbikaaGreat
namespace Go.Proofs.YtcbdbflgfhbikaaGreat
open Go.RowKit
section
variable {f f1 g g' z : Nat → Nat} {F S l : List Nat} {off lk n k : Nat}
theorem FreeL.free_apart (h : FreeL F) : Apart 32 (fun x => x ∈ F) where
  far := fun x y hx hy hn => by have := h.far hx hy hn; omega
  root := fun x hx => by have := h.on x hx; omega
theorem FreeL.son_apart (h : FreeL F) (ho : off ∈ F) {r : Nat} (hr : r = off + 8 ∨ r = off + 16) : Apart r (fun x => x ∈ F ∧ x ≠ off) where
  far := fun x y hx hy hn => by have := h.far hx.1 hy.1 hn; omega
  root := fun x hx => by have := h.far hx.1 ho hx.2; omega
structure Tame (z : Nat → Nat) (F S : List Nat) : Prop where
  free : FreeL F
  rise : Rising z S
  sub : ∀ x, x ∈ S → x ∈ F
theorem Tame.lt (h : Tame z F S) {x : Nat} (hx : x ∈ F) : x < 18446744073709551616 := by have := h.free.on x hx; omega
theorem Tame.rk (h : Tame z F S) {x y : Nat} (hx : x ∈ F) (hy : y ∈ F) (hn : x ≠ y) : rkN x ≠ rkN y := fun e => hn (rkN_inj (h.lt hx) (h.lt hy) e)
theorem part_out {pre m post : List Nat} (h : (pre ++ m ++ post).Nodup) {x : Nat} (hx : x ∈ m) : x ∉ pre ++ post := by
  intro hm
  rw [List.nodup_append] at h
  obtain ⟨h1, h2, h3⟩ := h
  rw [List.nodup_append] at h1
  rcases List.mem_append.1 hm with hm | hm
  · exact h1.2.2 x hm x hx rfl
  · exact h3 x (by simp [hx]) x hm rfl
def FindAt (f z : Nat → Nat) (F S : List Nat) (off lk n k : Nat) : Prop :=
  ∃ pre m post P, m.length = k ∧ S = pre ++ m ++ post ∧ Hole f rkN 32 (fun x => x ∈ F) lk pre post P ∧ f lk = n ∧ TreeOf f rkN n m ∧ (∀ x, x ∈ m → P x) ∧ P off ∧ (∀ x, x ∈ pre → blkLt z x off) ∧ (∀ x, x ∈ post → blkLt z off x)
theorem find_start (h : Tame z F S) (ht : TreeOf f rkN (f 32) S) : FindAt f z F S off 32 (f 32) S.length :=
  ⟨[], S, [], _, rfl, by simp, Hole.start h.free.free_apart, rfl, ht, fun _ _ => trivial, trivial, by simp, by simp⟩
theorem FindAt.at_ (h : FindAt f z F S off lk n k) : f lk = n := by obtain ⟨_, _, _, _, _, _, _, e, _⟩ := h; exact e
theorem FindAt.link (h : FindAt f z F S off lk n k) : lk = 32 ∨ ∃ x, x ∈ F ∧ (lk = x + 8 ∨ lk = x + 16) := by
  obtain ⟨_, _, _, _, _, _, hh, _⟩ := h
  rcases hh.link with e | ⟨x, hx, e⟩
  · exact .inl e
  · exact .inr ⟨x, hh.sub x hx, e⟩
theorem FindAt.mem (h : FindAt f z F S off lk n k) (h0 : n ≠ 0) : n ∈ S := by
  obtain ⟨pre, m, post, P, _, rfl, _, _, ht, _⟩ := h
  have := ht.mem h0
  simp [this]
theorem find_left (hT : Tame z F S) (h : FindAt f z F S off lk n k) (h0 : n ≠ 0) (hr : rkN off < rkN n) (hlt : blkLt z off n) : ∃ j, j < k ∧ FindAt f z F S off (n + 8) (f (n + 8)) j := by
  obtain ⟨pre, m, post, P, rfl, rfl, hh, e, ht, hP, hPo, h1, h2⟩ := h
  obtain ⟨L, R, rfl, hL, hR, tL, tR⟩ := ht.some h0
  have hnd := hT.rise.nodup
  have hA : ∀ x, x ∈ L ++ n :: R → x ∈ F := fun x hx => hT.sub x (mem_mid hx)
  have hout : ∀ x, x ∈ L ++ n :: R → x ∉ pre ++ post := fun x hx => part_out hnd hx
  have hnd2 : (L ++ n :: R).Nodup := by
    have := (List.nodup_append.1 hnd).1
    exact (List.nodup_append.1 this).2.1
  have hnd3 := List.nodup_cons.1 (List.nodup_append.1 hnd2).2.1
  have hris : Rising z (L ++ n :: R) := by
    have h3 := hT.rise
    unfold Rising at h3 ⊢
    exact (List.pairwise_append.1 (List.pairwise_append.1 h3).1).2.1
  refine ⟨L.length, by simp only [List.length_append, List.length_cons]; omega, pre, L, n :: (R ++ post), _, rfl, by simp, hh.left e h0 (fun x hx => hA x (by simp only [List.mem_append]; exact .inr hx)) (hout n (by simp)) hnd3.1 (fun x hx => hP x (by simp only [List.mem_append]; exact .inr hx)) hR (fun x hx => hout x (by simp [hx])) tR, rfl, tL, fun x hx => ⟨hP x (by simp [hx]), hL x hx⟩, ⟨hPo, hr⟩, h1, fun x hx => ?_⟩
  rcases List.mem_cons.1 hx with rfl | hx
  · exact hlt
  · rcases List.mem_append.1 hx with hx | hx
    · exact hlt.trans (hris.ahead.2.1 x hx)
    · exact h2 x hx
theorem find_right (hT : Tame z F S) (h : FindAt f z F S off lk n k) (h0 : n ≠ 0) (hr : rkN off < rkN n) (hlt : blkLt z n off) : ∃ j, j < k ∧ FindAt f z F S off (n + 16) (f (n + 16)) j := by
  obtain ⟨pre, m, post, P, rfl, rfl, hh, e, ht, hP, hPo, h1, h2⟩ := h
  obtain ⟨L, R, rfl, hL, hR, tL, tR⟩ := ht.some h0
  have hnd := hT.rise.nodup
  have hA : ∀ x, x ∈ L ++ n :: R → x ∈ F := fun x hx => hT.sub x (mem_mid hx)
  have hout : ∀ x, x ∈ L ++ n :: R → x ∉ pre ++ post := fun x hx => part_out hnd hx
  have hnd2 : (L ++ n :: R).Nodup := by
    have := (List.nodup_append.1 hnd).1
    exact (List.nodup_append.1 this).2.1
  have hnL : n ∉ L := fun hm => (List.nodup_append.1 hnd2).2.2 n hm n (by simp) rfl
  have hris : Rising z (L ++ n :: R) := by
    have h3 := hT.rise
    unfold Rising at h3 ⊢
    exact (List.pairwise_append.1 (List.pairwise_append.1 h3).1).2.1
  have hcons : ∀ x, x ∈ n :: L → x ∈ L ++ n :: R := fun x hx => by
    rcases List.mem_cons.1 hx with rfl | hx
    · simp
    · simp [hx]
  refine ⟨R.length, by simp; omega, pre ++ (L ++ [n]), R, post, _, rfl, by simp, hh.right e h0 (fun x hx => hA x (hcons x hx)) (hout n (by simp)) hnL (fun x hx => hP x (hcons x hx)) hL (fun x hx => hout x (by simp [hx])) tL, rfl, tR, fun x hx => ⟨hP x (by simp [hx]), hR x hx⟩, ⟨hPo, hr⟩, fun x hx => ?_, h2⟩
  simp only [List.mem_append, List.mem_cons, List.not_mem_nil, or_false] at hx
  rcases hx with hx | hx | rfl
  · exact h1 x hx
  · exact (hris.ahead.1 x hx).trans hlt
  · exact hlt
theorem find_end (hT : Tame z F S) (ho : off ∈ F) (h : FindAt f z F S off lk n k) (hr : n = 0 ∨ rkN n ≤ rkN off) : (n = off ↔ off ∈ S) ∧ (off ∈ S → n ≠ 0) := by
  have ho0 : off ≠ 0 := by have := hT.free.on off ho; omega
  constructor
  · constructor
    · intro e
      rw [e] at h
      exact h.mem ho0
    · intro hm
      obtain ⟨pre, m, post, P, rfl, rfl, hh, e, ht, hP, hPo, h1, h2⟩ := h
      have hom : off ∈ m := by
        simp only [List.mem_append] at hm
        rcases hm with (hm | hm) | hm
        · exact absurd (h1 off hm) blkLt.irr
        · exact hm
        · exact absurd (h2 off hm) blkLt.irr
      have h0 : n ≠ 0 := fun e0 => by
        rw [e0] at ht
        rw [ht.zero] at hom
        simp at hom
      have hr' : rkN n ≤ rkN off := by
        rcases hr with hr | hr
        · exact absurd hr h0
        · exact hr
      obtain ⟨L, R, rfl, hL, hR, tL, tR⟩ := ht.some h0
      simp only [List.mem_append, List.mem_cons] at hom
      rcases hom with hom | hom | hom
      · have := hL off hom; omega
      · exact hom.symm
      · have := hR off hom; omega
  · intro hm e0
    obtain ⟨pre, m, post, P, rfl, rfl, hh, e, ht, hP, hPo, h1, h2⟩ := h
    rw [e0] at ht
    rw [ht.zero] at hm
    simp only [List.append_nil, List.mem_append] at hm
    rcases hm with hm | hm
    · exact absurd (h1 off hm) blkLt.irr
    · exact absurd (h2 off hm) blkLt.irr
def Kept (F : List Nat) (f g : Nat → Nat) : Prop := ∀ q, q ≠ 32 → (∀ x, x ∈ F → q ≠ x + 8 ∧ q ≠ x + 16) → g q = f q
theorem Kept.refl : Kept F f f := fun _ _ _ => rfl
theorem Kept.trans (h : Kept F f g) (k : Kept F g g') : Kept F f g' := fun q h1 h2 => (k q h1 h2).trans (h q h1 h2)
theorem Kept.put (hl : lk = 32 ∨ ∃ x, x ∈ F ∧ (lk = x + 8 ∨ lk = x + 16)) (hg : ∀ q, q ≠ lk → g q = f q) : Kept F f g := fun q h1 h2 => hg q fun e => by
  rcases hl with h | ⟨x, hx, h⟩
  · omega
  · have := h2 x hx; omega
theorem Kept.first (h : Kept F f g) (hF : FreeL F) {x : Nat} (hx : x ∈ F) : g x = f x := by
  refine h x (by have := hF.on x hx; omega) fun y hy => ?_
  rcases Nat.decEq x y with hn | rfl
  · have := hF.far hx hy hn; omega
  · omega
def SplitAt (f g z : Nat → Nat) (F l : List Nat) (off left right n k : Nat) : Prop :=
  ∃ a m b PL PR, m.length = k ∧ l = a ++ m ++ b ∧ Hole g rkN (off + 8) (fun x => x ∈ F ∧ x ≠ off) left a [] PL ∧ Hole g rkN (off + 16) (fun x => x ∈ F ∧ x ≠ off) right [] b PR ∧ TreeOf g rkN n m ∧ (∀ x, x ∈ m → PL x ∧ PR x) ∧ (∀ x, x ∈ a → blkLt z x off) ∧ (∀ x, x ∈ b → blkLt z off x) ∧
    ∀ q, q ≠ off + 8 → q ≠ off + 16 → (∀ x, x ∈ l → q ≠ x + 8 ∧ q ≠ x + 16) → g q = f q
structure Under (z : Nat → Nat) (F l : List Nat) (off : Nat) : Prop where
  free : FreeL F
  mem : off ∈ F
  rise : Rising z l
  sub : ∀ x, x ∈ l → x ∈ F ∧ x ≠ off
theorem split_start (hU : Under z F l off) (ht : TreeOf f rkN n l) : SplitAt f f z F l off (off + 8) (off + 16) n l.length :=
  ⟨[], l, [], _, _, rfl, by simp, Hole.start (hU.free.son_apart hU.mem (.inl rfl)), Hole.start (hU.free.son_apart hU.mem (.inr rfl)), ht, fun _ _ => ⟨trivial, trivial⟩, by simp, by simp, fun _ _ _ _ => rfl⟩
theorem SplitAt.links {left right : Nat} (h : SplitAt f g z F l off left right n k) : (left = off + 8 ∨ ∃ x, x ∈ l ∧ (left = x + 8 ∨ left = x + 16)) ∧ (right = off + 16 ∨ ∃ x, x ∈ l ∧ (right = x + 8 ∨ right = x + 16)) := by
  obtain ⟨a, m, b, PL, PR, _, rfl, h1, h2, _⟩ := h
  constructor
  · rcases h1.link with e | ⟨x, hx, e⟩
    · exact .inl e
    · refine .inr ⟨x, ?_, e⟩
      simp only [List.append_nil] at hx
      simp [hx]
  · rcases h2.link with e | ⟨x, hx, e⟩
    · exact .inl e
    · refine .inr ⟨x, ?_, e⟩
      simp only [List.nil_append] at hx
      simp [hx]
theorem SplitAt.mem {left right : Nat} (h : SplitAt f g z F l off left right n k) (h0 : n ≠ 0) : n ∈ l := by
  obtain ⟨a, m, b, PL, PR, _, rfl, h1, h2, ht, _⟩ := h
  have := ht.mem h0
  simp [this]
theorem part_far {a m b : List Nat} (h : (a ++ m ++ b).Nodup) : (∀ x, x ∈ m → x ∉ a) ∧ (∀ x, x ∈ m → x ∉ b) ∧ ∀ x, x ∈ a → x ∉ b := by
  rw [List.nodup_append] at h
  obtain ⟨h1, h2, h3⟩ := h
  rw [List.nodup_append] at h1
  exact ⟨fun x hx hy => h1.2.2 x hy x hx rfl, fun x hx hy => h3 x (by simp [hx]) x hy rfl, fun x hx hy => h3 x (by simp [hx]) x hy rfl⟩
theorem sides {A : Nat → Prop} {root root' left : Nat} {P : Nat → Prop} {pre post o : List Nat} (h : Hole g rkN root A left pre post P) (hA : ∀ x, x ∈ o → A x) (hr : root' ≠ root) (hs : ∀ x, A x → x + 8 ≠ root' ∧ x + 16 ≠ root') (hn : ∀ x, x ∈ o → x ∉ pre ++ post) : root' ≠ left ∧ ∀ x, x ∈ o → x + 8 ≠ left ∧ x + 16 ≠ left := by
  refine ⟨?_, fun x hx => h.off (hA x hx) (hn x hx)⟩
  rcases h.link with e | ⟨y, hy, e⟩
  · rw [e]; exact hr
  · have := hs y (h.sub y hy)
    omega
theorem rank_or {t : Nat} {L : List Nat} (ht : TreeOf g rkN t L) (hL : ∀ x, x ∈ L → rkN x < rkN n) : t = 0 ∨ rkN t < rkN n := by
  by_cases e : t = 0
  · exact .inl e
  · exact .inr (hL t (ht.mem e))
theorem split_left {left right : Nat} (hU : Under z F l off) (h : SplitAt f g z F l off left right n k) (h0 : n ≠ 0) (hlt : blkLt z n off) (hg : ∀ q, q ≠ left → g' q = g q) (hg2 : g' left = n) : ∃ j, j < k ∧ SplitAt f g' z F l off (n + 16) right (g' (n + 16)) j ∧ (g' (n + 16) = 0 ∨ rkN (g' (n + 16)) < rkN n) := by
  have hlk := h.links.1
  obtain ⟨a, m, b, PL, PR, rfl, rfl, h1, h2, ht, hP, ha, hb, hf⟩ := h
  obtain ⟨L, R, rfl, hL, hR, tL, tR⟩ := ht.some h0
  obtain ⟨o1, o2, o3⟩ := part_far hU.rise.nodup
  have hA : ∀ x, x ∈ L ++ n :: R → x ∈ F ∧ x ≠ off := fun x hx => hU.sub x (mem_mid hx)
  have hB : ∀ x, x ∈ b → x ∈ F ∧ x ≠ off := fun x hx => hU.sub x (by simp [hx])
  have hout : ∀ x, x ∈ L ++ n :: R → x ∉ a ++ [] := fun x hx => by rw [List.append_nil]; exact o1 x hx
  have hris : Rising z (L ++ n :: R) := by
    have h3 := hU.rise
    unfold Rising at h3 ⊢
    exact (List.pairwise_append.1 (List.pairwise_append.1 h3).1).2.1
  have hnL : n ∉ L := fun hm => blkLt.irr (hris.ahead.1 n hm)
  have hcons : ∀ x, x ∈ n :: L → x ∈ L ++ n :: R := fun x hx => by
    rcases List.mem_cons.1 hx with rfl | hx
    · simp
    · simp [hx]
  have h1' := h1.put hg
  have tm : TreeOf g' rkN n (L ++ n :: R) := h1.keeps hg hA hout ht
  obtain ⟨L', R', e, _, _, tL', tR'⟩ := tm.some h0
  obtain ⟨rfl, -, rfl⟩ := root_split e hL hR (by assumption) (by assumption)
  have hrt := sides h1 hB (show off + 16 ≠ off + 8 by omega) (fun x hx => (hU.free.son_apart hU.mem (.inr rfl)).root x hx) (fun x hx => by rw [List.append_nil]; exact fun hy => o3 x hy hx)
  refine ⟨R.length, by simp; omega, ⟨a ++ (L ++ [n]), R, b, _, PR, rfl, by simp, h1'.right hg2 h0 (fun x hx => hA x (hcons x hx)) (hout n (by simp)) hnL (fun x hx => (hP x (hcons x hx)).1) hL (fun x hx => hout x (by simp [hx])) tL', ?_, tR', fun x hx => ⟨⟨(hP x (by simp [hx])).1, hR x hx⟩, (hP x (by simp [hx])).2⟩, fun x hx => ?_, hb, fun q q1 q2 q3 => ?_⟩, rank_or tR' hR⟩
  · refine h2.frame (fun x hx => ?_) fun _ => hg _ hrt.1
    have := hrt.2 x (by simpa using hx)
    exact ⟨fun _ => hg _ this.1, fun _ => hg _ this.2⟩
  · simp only [List.mem_append, List.mem_cons, List.not_mem_nil, or_false] at hx
    rcases hx with hx | hx | rfl
    · exact ha x hx
    · exact (hris.ahead.1 x hx).trans hlt
    · exact hlt
  · rw [hg q, hf q q1 q2 q3]
    rcases hlk with e | ⟨x, hx, e⟩
    · omega
    · have := q3 x hx; omega
theorem split_right {left right : Nat} (hU : Under z F l off) (h : SplitAt f g z F l off left right n k) (h0 : n ≠ 0) (hlt : blkLt z off n) (hg : ∀ q, q ≠ right → g' q = g q) (hg2 : g' right = n) : ∃ j, j < k ∧ SplitAt f g' z F l off left (n + 8) (g' (n + 8)) j ∧ (g' (n + 8) = 0 ∨ rkN (g' (n + 8)) < rkN n) := by
  have hlk := h.links.2
  obtain ⟨a, m, b, PL, PR, rfl, rfl, h1, h2, ht, hP, ha, hb, hf⟩ := h
  obtain ⟨L, R, rfl, hL, hR, tL, tR⟩ := ht.some h0
  obtain ⟨o1, o2, o3⟩ := part_far hU.rise.nodup
  have hA : ∀ x, x ∈ L ++ n :: R → x ∈ F ∧ x ≠ off := fun x hx => hU.sub x (mem_mid hx)
  have hB : ∀ x, x ∈ a → x ∈ F ∧ x ≠ off := fun x hx => hU.sub x (by simp [hx])
  have hout : ∀ x, x ∈ L ++ n :: R → x ∉ [] ++ b := fun x hx => by rw [List.nil_append]; exact o2 x hx
  have hris : Rising z (L ++ n :: R) := by
    have h3 := hU.rise
    unfold Rising at h3 ⊢
    exact (List.pairwise_append.1 (List.pairwise_append.1 h3).1).2.1
  have hnR : n ∉ R := fun hm => blkLt.irr (hris.ahead.2.1 n hm)
  have hcons : ∀ x, x ∈ n :: R → x ∈ L ++ n :: R := fun x hx => by simp only [List.mem_append]; exact .inr hx
  have h2' := h2.put hg
  have tm : TreeOf g' rkN n (L ++ n :: R) := h2.keeps hg hA hout ht
  obtain ⟨L', R', e, _, _, tL', tR'⟩ := tm.some h0
  obtain ⟨rfl, -, rfl⟩ := root_split e hL hR (by assumption) (by assumption)
  have hrt := sides h2 hB (show off + 8 ≠ off + 16 by omega) (fun x hx => (hU.free.son_apart hU.mem (.inl rfl)).root x hx) (fun x hx => by rw [List.nil_append]; exact fun hy => o3 x hx hy)
  refine ⟨L.length, by simp only [List.length_append, List.length_cons]; omega, ⟨a, L, n :: (R ++ b), PL, _, rfl, by simp, ?_, h2'.left hg2 h0 (fun x hx => hA x (hcons x hx)) (hout n (by simp)) hnR (fun x hx => (hP x (hcons x hx)).2) hR (fun x hx => hout x (by simp [hx])) tR', tL', fun x hx => ⟨(hP x (by simp [hx])).1, (hP x (by simp [hx])).2, hL x hx⟩, ha, fun x hx => ?_, fun q q1 q2 q3 => ?_⟩, rank_or tL' hL⟩
  · refine h1.frame (fun x hx => ?_) fun _ => hg _ hrt.1
    have := hrt.2 x (by simpa using hx)
    exact ⟨fun _ => hg _ this.1, fun _ => hg _ this.2⟩
  · rcases List.mem_cons.1 hx with rfl | hx
    · exact hlt
    · rcases List.mem_append.1 hx with hx | hx
      · exact hlt.trans (hris.ahead.2.1 x hx)
      · exact hb x hx
  · rw [hg q, hf q q1 q2 q3]
    rcases hlk with e | ⟨x, hx, e⟩
    · omega
    · have := q3 x hx; omega
theorem split_end {left right : Nat} {g2 : Nat → Nat} (hU : Under z F l off) (h : SplitAt f g z F l off left right 0 k) (hg : ∀ q, q ≠ left → g' q = g q) (hg0 : g' left = 0) (hk : ∀ q, q ≠ right → g2 q = g' q) (hk0 : g2 right = 0) :
    ∃ a b, l = a ++ b ∧ (∀ x, x ∈ a → blkLt z x off) ∧ (∀ x, x ∈ b → blkLt z off x) ∧ TreeOf g2 rkN (g2 (off + 8)) a ∧ TreeOf g2 rkN (g2 (off + 16)) b ∧ ∀ q, q ≠ off + 8 → q ≠ off + 16 → (∀ x, x ∈ l → q ≠ x + 8 ∧ q ≠ x + 16) → g2 q = f q := by
  obtain ⟨hl1, hl2⟩ := h.links
  obtain ⟨a, m, b, PL, PR, rfl, rfl, h1, h2, ht, hP, ha, hb, hf⟩ := h
  have hm := ht.zero
  subst hm
  obtain ⟨o1, o2, o3⟩ := part_far hU.rise.nodup
  have hA : ∀ x, x ∈ a → x ∈ F ∧ x ≠ off := fun x hx => hU.sub x (by simp [hx])
  have hB : ∀ x, x ∈ b → x ∈ F ∧ x ≠ off := fun x hx => hU.sub x (by simp [hx])
  have s1 := sides h1 hB (show off + 16 ≠ off + 8 by omega) (fun x hx => (hU.free.son_apart hU.mem (.inr rfl)).root x hx) (fun x hx => by rw [List.append_nil]; exact fun hy => o3 x hy hx)
  have s2 := sides h2 hA (show off + 8 ≠ off + 16 by omega) (fun x hx => (hU.free.son_apart hU.mem (.inl rfl)).root x hx) (fun x hx => by rw [List.nil_append]; exact fun hy => o3 x hx hy)
  have hlr : left ≠ right := by
    rcases h2.link with e | ⟨x, hx, e⟩
    · rw [e]; exact s1.1.symm
    · have := s1.2 x (by simpa using hx)
      omega
  have e1 : TreeOf g' rkN (g' (off + 8)) (a ++ [] ++ []) := (h1.put hg).fill g' [] (fun x _ => ⟨fun _ => rfl, fun _ => rfl⟩) (fun _ => rfl) (by simp) (by rw [hg0]; exact TreeOf.nil)
  have h2' : Hole g2 rkN (off + 16) (fun x => x ∈ F ∧ x ≠ off) right [] b PR := by
    refine Hole.put (f := g') (h2.frame (fun x hx => ?_) fun _ => hg _ s1.1) hk
    have := s1.2 x (by simpa using hx)
    exact ⟨fun _ => hg _ this.1, fun _ => hg _ this.2⟩
  have e2 : TreeOf g2 rkN (g2 (off + 16)) ([] ++ [] ++ b) := h2'.fill g2 [] (fun x _ => ⟨fun _ => rfl, fun _ => rfl⟩) (fun _ => rfl) (by simp) (by rw [hk0]; exact TreeOf.nil)
  simp only [List.append_nil, List.nil_append] at e1 e2
  refine ⟨a, b, by simp, ha, hb, ?_, e2, fun q q1 q2 q3 => ?_⟩
  · rw [hk _ s2.1]
    refine e1.frame fun x hx => ?_
    have := s2.2 x hx
    exact ⟨hk _ this.1, hk _ this.2⟩
  · rw [hk q, hg q, hf q q1 q2 q3]
    · rcases hl1 with e | ⟨x, hx, e⟩
      · omega
      · have := q3 x hx; omega
    · rcases hl2 with e | ⟨x, hx, e⟩
      · omega
      · have := q3 x hx; omega
end
end Go.Proofs.YtcbdbflgfhbikaaGreat
namespace Go.Proofs.YtcbdbflgfhbikaaGreat
open Go.RowKit
theorem mix_rk (x : Nat) (w : World) : Calls Tryz.prog 128 #[.int .u64 x] w fun e w' => e = .returned (.int .u64 (rkN x : Nat)) ∧ w = w' := by
  have := mix_any x w
  rwa [rkN_wrap] at this
theorem rkN_zero : rkN 0 = 0 := by unfold rkN; rw [IntKind.wrap_u64]; rfl
def ltK (s o s' o' : Nat) : Prop := s < s' ∨ (s = s' ∧ o < o')
instance (s o s' o' : Nat) : Decidable (ltK s o s' o') := by unfold ltK; infer_instance
theorem cmpK_lt {s o s' o' : Nat} (h : ltK s o s' o') : cmpK s o s' o' = -1 := by
  unfold cmpK ltK at *
  rcases h with h | ⟨rfl, h⟩
  · rw [cmpN_lt h]; simp
  · rw [cmpN_eq, if_pos rfl, cmpN_lt h]
theorem cmpK_ge {s o s' o' : Nat} (h : ¬ ltK s o s' o') : cmpK s o s' o' = 0 ∨ cmpK s o s' o' = 1 := by
  unfold ltK at h
  unfold cmpK
  rcases cmpN_three s s' with ⟨h1, e⟩ | ⟨h1, e⟩ | ⟨h1, e⟩
  · omega
  · rw [e]; simp
  · rw [e, if_pos rfl]
    rcases cmpN_three o o' with ⟨h2, e2⟩ | ⟨h2, e2⟩ | ⟨h2, e2⟩
    · omega
    · exact .inr e2
    · exact .inl e2
theorem one_first {w w' : World} {x : Value} {t : TypeId} (hg : (w.alloc (.cells #[x] t)).grownBy w' none) : w'.heap[w.heap.size]? = some (.cells #[x] t (0, 0)) := by
  have h1 : (w.alloc (.cells #[x] t)).heap[w.heap.size]? = some (.cells #[x] t (0, 0)) := heap_alloc_new' _ _
  exact (hg.block _ (lt_of_block h1) (by simp)).trans h1
theorem two_frozen {w : World} {b : Nat} {x y : Value} {t : TypeId} (h : w.heap[b]? = some (.cells #[x, y] t (0, 0))) : w.frozen? ⟨b, 0, none⟩ = false ∧ w.frozen? ⟨b, 1, none⟩ = false := by
  exact ⟨by simp [World.frozen?, h], by simp [World.frozen?, h]⟩
theorem two_put {w : World} {b : Nat} {x y x' y' : Value} {t : TypeId} (h : w.heap[b]? = some (.cells #[x, y] t (0, 0))) : ((w.setCell ⟨b, 0, none⟩ x').setCell ⟨b, 1, none⟩ y').heap[b]? = some (.cells #[x', y'] t (0, 0)) := by
  rw [heap_setCell_same (heap_setCell_same h x') y']; rfl
theorem two_grown {w0 w : World} {b : Nat} {x' y' : Value} (h : w0.grownBy w none) (hb : w0.heap.size ≤ b) : w0.grownBy ((w.setCell ⟨b, 0, none⟩ x').setCell ⟨b, 1, none⟩ y') none :=
  grown_new (grown_trans (grown_any h _) (grown_trans (grown_set _ _ _ _) (grown_set _ _ _ _))) hb
section
variable {w : World} {T M : Nat} {R : Option Nat} {B D : Nat} {ws : List Nat} {l : List (Nat × Nat)}
set_option maxHeartbeats 1000000 in
theorem tkey_any (h : Thinks w T M R B D ws l) (off : Nat) (ho : off < 18446744073709551616) :
    Calls Tryz.prog 101 #[.agg #[.pointer (some ⟨T, 0, none⟩)], .int .u64 off] w fun e w' => e = .returned (.agg #[.int .u64 (tS (txSee ws l off) : Nat), .int .u64 off]) ∧ w.grownBy w' none := by
  have hload := fun (w1 : World) (hg : w.grownBy w1 none) => txload_any (h.later hg) off ho
  have hlt := txSee_lt h.seg.words h.ok off
  obtain ⟨x, hx⟩ : ∃ x, txSee ws l off = x := ⟨_, rfl⟩
  rw [hx] at hload hlt ⊢
  have hun := fun w1 => tunpack_any x hlt w1
  obtain ⟨s, hs⟩ : ∃ s, tS x = s := ⟨_, rfl⟩
  obtain ⟨u, hu⟩ : ∃ u, tU x = u := ⟨_, rfl⟩
  obtain ⟨o, ho⟩ : ∃ o, tO x = o := ⟨_, rfl⟩
  obtain ⟨m, hm⟩ : ∃ m, decide (mayW x) = m := ⟨_, rfl⟩
  rw [hs, hu, ho, hm] at hun
  rw [hs]
  have hg0 : w.grownBy ((w.alloc (.cells #[.pointer (some ⟨T, 0, none⟩)] 135)).alloc (.cells #[.int .u64 0, .int .u64 0] 140)) none := grown_trans (World.grownBy_alloc _ _ _) (World.grownBy_alloc _ _ _)
  have hb : ((w.alloc (.cells #[.pointer (some ⟨T, 0, none⟩)] 135)).alloc (.cells #[.int .u64 0, .int .u64 0] 140)).heap[w.heap.size + 1]? = some (.cells #[.int .u64 0, .int .u64 0] 140 (0, 0)) := by
    have := heap_alloc_new' (w.alloc (.cells #[.pointer (some ⟨T, 0, none⟩)] 135)) (.cells #[.int .u64 0, .int .u64 0] 140)
    rwa [World.size_alloc] at this
  have HB := Lib.hid hb
  clear hs hu ho hm hx hlt h hb
  go_enter Tryz.func101, Tryz.ntmps101
  go_wp2_with (first | (go_at_call 17; (with_reducible refine (hload _ hg0).mono ?_); rintro e w1 ⟨rfl, hg1⟩) | (go_at_call 91; (with_reducible refine (hun _).mono ?_); rintro e w2 ⟨rfl, hg2⟩; have HG := Lib.hid (grown_trans hg0 (grown_trans hg1 hg2)); have HB2 := Lib.hid (two_held (two_held (two_held HB.out hg1) hg2) (World.grownBy_alloc w2 (.cells #[.int .u64 s, .bool u, .int .i64 o] 43) none)); obtain ⟨c0, c1⟩ := two_cells HB2.out; obtain ⟨f0, f1⟩ := two_frozen HB2.out))
  have hb := two_put HB2.out (x' := .int .u64 s) (y' := .int .u64 off)
  obtain ⟨k0, k1⟩ := two_cells hb
  refine bodyPost_ret (v := .agg #[.int .u64 s, .int .u64 off]) (by simp [results, Tryz.results101, go_sem, k0, k1]) rfl ?_
  exact ⟨rfl, two_grown (grown_trans HG.out (World.grownBy_alloc _ _ _)) (by omega)⟩
set_option maxHeartbeats 1000000 in
theorem toward_core (h : Thinks w T M R B D ws l) (off s o : Nat) (ho : off < 18446744073709551616) (c : Int) (q : Nat) (hc : cmpK s o (tS (txSee ws l off)) off = c) (hq : (c = -1 ∧ (off + 8) % 18446744073709551616 = q) ∨ ((c = 0 ∨ c = 1) ∧ (off + 16) % 18446744073709551616 = q)) :
    Calls Tryz.prog 133 #[.agg #[.pointer (some ⟨T, 0, none⟩)], .int .u64 off, .agg #[.int .u64 s, .int .u64 o]] w fun e w' => e = .returned (.int .u64 q) ∧ w.grownBy w' none := by
  have hkey := fun (w1 : World) (hg : w.grownBy w1 none) => tkey_any (h.later hg) off ho
  obtain ⟨z, hz⟩ : ∃ z, tS (txSee ws l off) = z := ⟨_, rfl⟩
  rw [hz] at hc hkey
  have hcmp := fun w => tcompare_grown s o z off w
  rw [hc] at hcmp
  have hg0 : w.grownBy ((w.alloc (.cells #[.pointer (some ⟨T, 0, none⟩)] 135)).alloc (.cells #[.int .u64 s, .int .u64 o] 140)) none := grown_trans (World.grownBy_alloc _ _ _) (World.grownBy_alloc _ _ _)
  have ha : ((w.alloc (.cells #[.pointer (some ⟨T, 0, none⟩)] 135)).alloc (.cells #[.int .u64 s, .int .u64 o] 140)).heap[w.heap.size]? = some (.cells #[.pointer (some ⟨T, 0, none⟩)] 135 (0, 0)) := (Below.heap_alloc _ _ _ (by simp)).trans (heap_alloc_new' w _)
  have hb : ((w.alloc (.cells #[.pointer (some ⟨T, 0, none⟩)] 135)).alloc (.cells #[.int .u64 s, .int .u64 o] 140)).heap[w.heap.size + 1]? = some (.cells #[.int .u64 s, .int .u64 o] 140 (0, 0)) := by
    have := heap_alloc_new' (w.alloc (.cells #[.pointer (some ⟨T, 0, none⟩)] 135)) (.cells #[.int .u64 s, .int .u64 o] 140)
    rwa [World.size_alloc] at this
  obtain ⟨W, hW⟩ : ∃ W, (w.alloc (.cells #[.pointer (some ⟨T, 0, none⟩)] 135)).alloc (.cells #[.int .u64 s, .int .u64 o] 140) = W := ⟨_, rfl⟩
  rw [hW] at ha hb hg0
  have hcell : ∀ {wr : World}, W.grownBy wr none → wr.cell? ⟨w.heap.size, 0, none⟩ = some (.pointer (some ⟨T, 0, none⟩)) ∧ wr.cell? ⟨w.heap.size + 1, 0, none⟩ = some (.int .u64 s) ∧ wr.cell? ⟨w.heap.size + 1, 1, none⟩ = some (.int .u64 o) := fun {wr} hg => ⟨cell_of_one ((hg.block _ (lt_of_block ha) (by simp)).trans ha), two_cells (two_held hb hg)⟩
  have HG : W.grownBy W.drew none := grown_drew (grown_refl _ _)
  obtain ⟨d0, d1, d2⟩ := hcell HG
  clear h hc hz
  rcases hq with ⟨rfl, hq⟩ | ⟨rfl | rfl, hq⟩
  · have e1 : IntKind.u64.wrap ((off : Int) + 8) = (q : Nat) := by rw [IntKind.wrap_u64]; omega
    clear hq
    go_enter Tryz.func133, Tryz.ntmps133
    go_wp2
    go_region_held3 (fun wr => wr.cell? ⟨w.heap.size, 0, none⟩ = some (.pointer (some ⟨T, 0, none⟩)) ∧ wr.cell? ⟨w.heap.size + 1, 0, none⟩ = some (.int .u64 s) ∧ wr.cell? ⟨w.heap.size + 1, 1, none⟩ = some (.int .u64 o)) (exact hcell HG) (first | (go_at_call 101; (with_reducible refine (hkey _ (grown_trans hg0 HG)).mono ?_); rintro e w9 ⟨rfl, hg9⟩; replace HG := grown_trans HG hg9; obtain ⟨d0, d1, d2⟩ := hcell HG) | (go_at_call 127; (with_reducible refine (hcmp _).mono ?_); rintro e w9 ⟨rfl, hg9⟩; replace HG := grown_trans HG hg9; obtain ⟨d0, d1, d2⟩ := hcell HG))
    all_goals go_wp2
    go_ret
    exact ⟨rfl, grown_trans hg0 HG⟩
  · have e1 : IntKind.u64.wrap ((off : Int) + 16) = (q : Nat) := by rw [IntKind.wrap_u64]; omega
    clear hq
    go_enter Tryz.func133, Tryz.ntmps133
    go_wp2
    go_region_held3 (fun wr => wr.cell? ⟨w.heap.size, 0, none⟩ = some (.pointer (some ⟨T, 0, none⟩)) ∧ wr.cell? ⟨w.heap.size + 1, 0, none⟩ = some (.int .u64 s) ∧ wr.cell? ⟨w.heap.size + 1, 1, none⟩ = some (.int .u64 o)) (exact hcell HG) (first | (go_at_call 101; (with_reducible refine (hkey _ (grown_trans hg0 HG)).mono ?_); rintro e w9 ⟨rfl, hg9⟩; replace HG := grown_trans HG hg9; obtain ⟨d0, d1, d2⟩ := hcell HG) | (go_at_call 127; (with_reducible refine (hcmp _).mono ?_); rintro e w9 ⟨rfl, hg9⟩; replace HG := grown_trans HG hg9; obtain ⟨d0, d1, d2⟩ := hcell HG))
    all_goals go_wp2
    go_ret
    exact ⟨rfl, grown_trans hg0 HG⟩
  · have e1 : IntKind.u64.wrap ((off : Int) + 16) = (q : Nat) := by rw [IntKind.wrap_u64]; omega
    clear hq
    go_enter Tryz.func133, Tryz.ntmps133
    go_wp2
    go_region_held3 (fun wr => wr.cell? ⟨w.heap.size, 0, none⟩ = some (.pointer (some ⟨T, 0, none⟩)) ∧ wr.cell? ⟨w.heap.size + 1, 0, none⟩ = some (.int .u64 s) ∧ wr.cell? ⟨w.heap.size + 1, 1, none⟩ = some (.int .u64 o)) (exact hcell HG) (first | (go_at_call 101; (with_reducible refine (hkey _ (grown_trans hg0 HG)).mono ?_); rintro e w9 ⟨rfl, hg9⟩; replace HG := grown_trans HG hg9; obtain ⟨d0, d1, d2⟩ := hcell HG) | (go_at_call 127; (with_reducible refine (hcmp _).mono ?_); rintro e w9 ⟨rfl, hg9⟩; replace HG := grown_trans HG hg9; obtain ⟨d0, d1, d2⟩ := hcell HG))
    all_goals go_wp2
    go_ret
    exact ⟨rfl, grown_trans hg0 HG⟩
theorem toward_left (h : Thinks w T M R B D ws l) (off s o : Nat) (ho : off + 8 < 18446744073709551616) (hk : ltK s o (tS (txSee ws l off)) off) :
    Calls Tryz.prog 133 #[.agg #[.pointer (some ⟨T, 0, none⟩)], .int .u64 off, .agg #[.int .u64 s, .int .u64 o]] w fun e w' => e = .returned (.int .u64 (off + 8 : Nat)) ∧ w.grownBy w' none :=
  toward_core h off s o (by omega) (-1) (off + 8) (cmpK_lt hk) (.inl ⟨rfl, by omega⟩)
theorem toward_right (h : Thinks w T M R B D ws l) (off s o : Nat) (ho : off + 16 < 18446744073709551616) (hk : ¬ ltK s o (tS (txSee ws l off)) off) :
    Calls Tryz.prog 133 #[.agg #[.pointer (some ⟨T, 0, none⟩)], .int .u64 off, .agg #[.int .u64 s, .int .u64 o]] w fun e w' => e = .returned (.int .u64 (off + 16 : Nat)) ∧ w.grownBy w' none :=
  toward_core h off s o (by omega) _ (off + 16) rfl (.inr ⟨cmpK_ge hk, by omega⟩)
def Led (ws : List Nat) (l : List (Nat × Nat)) (lk v : Nat) (l' : List (Nat × Nat)) : Prop := ∀ q, txSee ws l' q = if q = lk then v else txSee ws l q
theorem Led.at_ {lk v : Nat} {l' : List (Nat × Nat)} (h : Led ws l lk v l') : txSee ws l' lk = v := by rw [h, if_pos rfl]
theorem Led.off {lk v : Nat} {l' : List (Nat × Nat)} (h : Led ws l lk v l') : ∀ q, q ≠ lk → txSee ws l' q = txSee ws l q := fun q hq => by rw [h, if_neg hq]
set_option maxHeartbeats 1000000 in
theorem tlead_any (h : Thinks w T M R B D ws l) (lk v : Nat) (hs : stands ws lk) (hlk : lk < 18446744073709551616) (hv : v < 18446744073709551616) :
    Calls Tryz.prog 99 #[.agg #[.pointer (some ⟨T, 0, none⟩)], .int .u64 lk, .int .u64 v] w fun e w' => e = .returned (.tuple #[]) ∧ ∃ l', Thought w T M R B D ws l' w' ∧ Led ws l lk v l' := by
  have hload := fun (w1 : World) (hg : w.grownBy w1 none) => txload_any (h.later hg) lk hlk
  have hstore := fun (w1 : World) (hg : w.grownBy w1 none) => txstore_any (h.later hg) lk v hlk hv
  have hg0 : w.grownBy (w.alloc (.cells #[.pointer (some ⟨T, 0, none⟩)] 135)) none := World.grownBy_alloc _ _ _
  obtain ⟨x, hx⟩ : ∃ x, txSee ws l lk = x := ⟨_, rfl⟩
  rw [hx] at hload
  have HX := Lib.hid hx
  have HT := Lib.hid h
  have HS := Lib.hid hs
  clear hx h hs
  by_cases hxv : x = v
  · subst hxv
    go_enter Tryz.func99, Tryz.ntmps99
    go_wp2_with (first | (go_at_call 17; (with_reducible refine (hload _ hg0).mono ?_); rintro e w1 ⟨rfl, hg1⟩))
    go_end0
    refine ⟨rfl, l, Thought.same HT.out (grown_trans hg0 hg1), fun q => ?_⟩
    by_cases e : q = lk
    · rw [if_pos e, e, HX.out]
    · rw [if_neg e]
  · have hne : ¬ (x : Int) = (v : Int) := by omega
    go_enter Tryz.func99, Tryz.ntmps99
    go_wp2_with (first | (go_at_call 17; (with_reducible refine (hload _ hg0).mono ?_); rintro e w1 ⟨rfl, hg1⟩; have hb := Lib.hid (one_first hg1); have c0 := cell_of_one hb.out) | (go_at_call 16; (with_reducible refine (hstore _ (grown_trans hg0 hg1)).mono ?_); rintro e w2 ⟨rfl, ht⟩))
    go_end0
    exact ⟨rfl, _, Thought.first (grown_trans hg0 hg1) ht, fun q => see_stored HS.out q⟩
end
end Go.Proofs.YtcbdbflgfhbikaaGreat
