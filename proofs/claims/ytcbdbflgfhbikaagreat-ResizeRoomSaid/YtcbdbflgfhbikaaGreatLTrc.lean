/-
  Texts of one layer, one behind the other: memory, contracts of the functions, and what follows of them.
  Conditions: as each theorem says.
-/
import Derived.Test.YtcbdbflgfhbikaaGreatLTrb
import Derived.Test.YtcbdbflgfhbikaaGreatLTra
set_option linter.unusedVariables false
set_option linter.unusedSimpArgs false
namespace Go.Proofs.YtcbdbflgfhbikaaGreat
open Go.RowKit
section
variable {f g g' z : Nat → Nat} {F S U : List Nat} {off lk n k left right : Nat}
def JoinAt (g z : Nat → Nat) (F U : List Nat) (lk left right k : Nat) : Prop :=
  ∃ pre la lb post P, la.length + lb.length = k ∧ U = pre ++ (la ++ lb) ++ post ∧ Hole g rkN 32 (fun x => x ∈ F) lk pre post P ∧ TreeOf g rkN left la ∧ TreeOf g rkN right lb ∧ ∀ x, x ∈ la ++ lb → P x
theorem JoinAt.link (h : JoinAt g z F U lk left right k) : lk = 32 ∨ ∃ x, x ∈ F ∧ (lk = x + 8 ∨ lk = x + 16) := by
  obtain ⟨pre, la, lb, post, P, _, _, hh, _⟩ := h
  rcases hh.link with e | ⟨x, hx, e⟩
  · exact .inl e
  · exact .inr ⟨x, hh.sub x hx, e⟩
theorem JoinAt.mem (h : JoinAt g z F U lk left right k) : (left ≠ 0 → left ∈ U) ∧ (right ≠ 0 → right ∈ U) ∧ (left ≠ 0 → U.Nodup → left ≠ right) := by
  obtain ⟨pre, la, lb, post, P, _, rfl, hh, tl, tr, _⟩ := h
  refine ⟨fun h0 => ?_, fun h0 => ?_, fun h0 hn e => ?_⟩
  · have := tl.mem h0; simp [this]
  · have := tr.mem h0; simp [this]
  · have h1 := tl.mem h0
    rw [e] at h1 h0
    have h2 := tr.mem h0
    have h3 := (List.nodup_append.1 (List.nodup_append.1 hn).1).2.1
    exact (List.nodup_append.1 h3).2.2 _ h1 _ h2 rfl
theorem join_start (hT : Tame z F S) (h : FindAt f z F S off lk off k) (hS : off ∈ F) : ∃ j, JoinAt f z F (S.filter fun a => decide (a ≠ off)) lk (f (off + 8)) (f (off + 16)) j := by
  have h0 : off ≠ 0 := by have := hT.free.on off hS; omega
  obtain ⟨pre, m, post, P, rfl, rfl, hh, e, ht, hP, hPo, h1, h2⟩ := h
  obtain ⟨L, R, rfl, hL, hR, tL, tR⟩ := ht.some h0
  refine ⟨_, pre, L, R, post, P, rfl, ?_, hh, tL, tR, fun x hx => hP x ?_⟩
  · have h3 := hT.rise
    rw [show pre ++ (L ++ off :: R) ++ post = (pre ++ L) ++ off :: (R ++ post) by simp] at h3 ⊢
    rw [filter_top h3]
    simp
  · rcases List.mem_append.1 hx with hx | hx
    · simp [hx]
    · simp [hx]
structure Lot (F U : List Nat) : Prop where
  free : FreeL F
  nodup : U.Nodup
  sub : ∀ x, x ∈ U → x ∈ F
theorem rank_le {t : Nat} {L : List Nat} (ht : TreeOf g rkN t L) {x : Nat} (hx : x ∈ L) : rkN x ≤ rkN t := by
  by_cases e : t = 0
  · rw [e] at ht; rw [ht.zero] at hx; simp at hx
  · obtain ⟨A, B, rfl, hA, hB, _, _⟩ := ht.some e
    simp only [List.mem_append, List.mem_cons] at hx
    rcases hx with hx | rfl | hx
    · have := hA x hx; omega
    · omega
    · have := hB x hx; omega
theorem join_left (hU : Lot F U) (h : JoinAt g z F U lk left right k) (h0 : left ≠ 0) (hr : rkN right < rkN left) (hg : ∀ q, q ≠ lk → g' q = g q) (hg2 : g' lk = left) : (∃ j, JoinAt g' z F U (left + 16) (g' (left + 16)) right j) ∧ (g' (left + 16) = 0 ∨ rkN (g' (left + 16)) < rkN left) := by
  obtain ⟨pre, la, lb, post, P, rfl, rfl, hh, tl, tr, hP⟩ := h
  obtain ⟨L, R, rfl, hL, hR, tL, tR⟩ := tl.some h0
  have hout : ∀ x, x ∈ (L ++ left :: R) ++ lb → x ∉ pre ++ post := fun x hx => part_out hU.nodup hx
  have hA : ∀ x, x ∈ (L ++ left :: R) ++ lb → x ∈ F := fun x hx => hU.sub x (mem_mid hx)
  have hnd := (List.nodup_append.1 (List.nodup_append.1 hU.nodup).1).2.1
  have hnL : left ∉ L := fun hm => by
    have := (List.nodup_append.1 hnd).1
    exact (List.nodup_append.1 this).2.2 left hm left (by simp) rfl
  have inA : ∀ x, x ∈ L ++ left :: R → x ∈ (L ++ left :: R) ++ lb := fun x hx => List.mem_append.2 (.inl hx)
  have inB : ∀ x, x ∈ lb → x ∈ (L ++ left :: R) ++ lb := fun x hx => List.mem_append.2 (.inr hx)
  have hcons : ∀ x, x ∈ left :: L → x ∈ L ++ left :: R := fun x hx => by
    rcases List.mem_cons.1 hx with rfl | hx
    · simp
    · simp [hx]
  have tl' : TreeOf g' rkN left (L ++ left :: R) := hh.keeps hg (fun x hx => hA x (inA x hx)) (fun x hx => hout x (inA x hx)) tl
  have tr' : TreeOf g' rkN right lb := hh.keeps hg (fun x hx => hA x (inB x hx)) (fun x hx => hout x (inB x hx)) tr
  obtain ⟨L', R', e, _, _, tL', tR'⟩ := tl'.some h0
  obtain ⟨rfl, -, rfl⟩ := root_split e hL hR (by assumption) (by assumption)
  refine ⟨⟨_, pre ++ (L ++ [left]), R, lb, post, _, rfl, by simp, (hh.put hg).right hg2 h0 (fun x hx => hA x (inA x (hcons x hx))) (hout left (inA left (by simp))) hnL (fun x hx => hP x (inA x (hcons x hx))) hL (fun x hx => hout x (inA x (by simp [hx]))) tL', tR', tr', fun x hx => ?_⟩, rank_or tR' hR⟩
  rcases List.mem_append.1 hx with hx | hx
  · exact ⟨hP x (inA x (by simp [hx])), hR x hx⟩
  · exact ⟨hP x (inB x hx), by have := rank_le tr hx; omega⟩
theorem join_right (hU : Lot F U) (h : JoinAt g z F U lk left right k) (h0 : right ≠ 0) (hr : rkN left < rkN right) (hg : ∀ q, q ≠ lk → g' q = g q) (hg2 : g' lk = right) : (∃ j, JoinAt g' z F U (right + 8) left (g' (right + 8)) j) ∧ (g' (right + 8) = 0 ∨ rkN (g' (right + 8)) < rkN right) := by
  obtain ⟨pre, la, lb, post, P, rfl, rfl, hh, tl, tr, hP⟩ := h
  obtain ⟨L, R, rfl, hL, hR, tL, tR⟩ := tr.some h0
  have hout : ∀ x, x ∈ la ++ (L ++ right :: R) → x ∉ pre ++ post := fun x hx => part_out hU.nodup hx
  have hA : ∀ x, x ∈ la ++ (L ++ right :: R) → x ∈ F := fun x hx => hU.sub x (mem_mid hx)
  have hnd := (List.nodup_append.1 (List.nodup_append.1 hU.nodup).1).2.1
  have hnR : right ∉ R := by
    have h1 := (List.nodup_append.1 hnd).2.1
    exact (List.nodup_cons.1 (List.nodup_append.1 h1).2.1).1
  have inA : ∀ x, x ∈ L ++ right :: R → x ∈ la ++ (L ++ right :: R) := fun x hx => List.mem_append.2 (.inr hx)
  have inB : ∀ x, x ∈ la → x ∈ la ++ (L ++ right :: R) := fun x hx => List.mem_append.2 (.inl hx)
  have hcons : ∀ x, x ∈ right :: R → x ∈ L ++ right :: R := fun x hx => List.mem_append.2 (.inr hx)
  have tr' : TreeOf g' rkN right (L ++ right :: R) := hh.keeps hg (fun x hx => hA x (inA x hx)) (fun x hx => hout x (inA x hx)) tr
  have tl' : TreeOf g' rkN left la := hh.keeps hg (fun x hx => hA x (inB x hx)) (fun x hx => hout x (inB x hx)) tl
  obtain ⟨L', R', e, _, _, tL', tR'⟩ := tr'.some h0
  obtain ⟨rfl, -, rfl⟩ := root_split e hL hR (by assumption) (by assumption)
  refine ⟨⟨_, pre, la, L, right :: (R ++ post), _, rfl, by simp, (hh.put hg).left hg2 h0 (fun x hx => hA x (inA x (hcons x hx))) (hout right (inA right (by simp))) hnR (fun x hx => hP x (inA x (hcons x hx))) hR (fun x hx => hout x (inA x (by simp [hx]))) tR', tl', tL', fun x hx => ?_⟩, rank_or tL' hL⟩
  rcases List.mem_append.1 hx with hx | hx
  · exact ⟨hP x (inB x hx), by have := rank_le tl hx; omega⟩
  · exact ⟨hP x (inA x (by simp [hx])), hL x hx⟩
theorem join_end (hU : Lot F U) (h : JoinAt g z F U lk left right k) (h0 : left = 0 ∨ right = 0) (hg : ∀ q, q ≠ lk → g' q = g q) (hg2 : g' lk = max left right) : TreeOf g' rkN (g' 32) U := by
  obtain ⟨pre, la, lb, post, P, rfl, rfl, hh, tl, tr, hP⟩ := h
  have hout : ∀ x, x ∈ la ++ lb → x ∉ pre ++ post := fun x hx => part_out hU.nodup hx
  have hA : ∀ x, x ∈ la ++ lb → x ∈ F := fun x hx => hU.sub x (mem_mid hx)
  refine (hh.put hg).fill g' _ (fun x _ => ⟨fun _ => rfl, fun _ => rfl⟩) (fun _ => rfl) hP ?_
  rw [hg2]
  rcases h0 with rfl | rfl
  · rw [tl.zero, Nat.zero_max, List.nil_append]
    exact hh.keeps hg (fun x hx => hA x (by simp [hx])) (fun x hx => hout x (by simp [hx])) tr
  · rw [tr.zero, Nat.max_zero, List.append_nil]
    exact hh.keeps hg (fun x hx => hA x (by simp [hx])) (fun x hx => hout x (by simp [hx])) tl
theorem insert_end {f1 : Nat → Nat} (hT : Tame z F S) (ho : off ∈ F) (hn : off ∉ S) (h : FindAt f z F S off lk n k) (hr : n = 0 ∨ rkN n ≤ rkN off)
    (h1 : ∀ q, q ≠ lk → f1 q = f q) (h2 : f1 lk = off) : ∃ l, TreeOf f1 rkN n l ∧ Under z F l off ∧
    ∀ (g : Nat → Nat) (a b : List Nat), l = a ++ b → (∀ x, x ∈ a → blkLt z x off) → (∀ x, x ∈ b → blkLt z off x) → TreeOf g rkN (g (off + 8)) a → TreeOf g rkN (g (off + 16)) b → (∀ q, q ≠ off + 8 → q ≠ off + 16 → (∀ x, x ∈ l → q ≠ x + 8 ∧ q ≠ x + 16) → g q = f1 q) →
      TreeOf g rkN (g 32) (insK z off S) ∧ Kept F f g := by
  have ho0 : off ≠ 0 := by have := hT.free.on off ho; omega
  have hlink := h.link
  obtain ⟨pre, m, post, P, rfl, rfl, hh, e, ht, hP, hPo, hp1, hp2⟩ := h
  have hout : ∀ x, x ∈ m → x ∉ pre ++ post := fun x hx => part_out hT.rise.nodup hx
  have hA : ∀ x, x ∈ m → x ∈ F := fun x hx => hT.sub x (mem_mid hx)
  have hoff : off ∉ pre ++ post := fun hm => hn (by
    rcases List.mem_append.1 hm with hm | hm
    · simp [hm]
    · simp [hm])
  have hrm : Rising z m := by
    have h3 := hT.rise
    unfold Rising at h3 ⊢
    exact (List.pairwise_append.1 (List.pairwise_append.1 h3).1).2.1
  have hom : off ∉ m := fun hm => hn (by simp [hm])
  have hrk : ∀ x, x ∈ m → rkN x < rkN off := fun x hx => by
    have h3 := rank_le ht hx
    have h4 := hT.rk (hA x hx) ho (fun e => hom (e ▸ hx))
    rcases hr with hr | hr
    · rw [hr] at ht; rw [ht.zero] at hx; simp at hx
    · omega
  refine ⟨m, hh.keeps h1 hA hout ht, ⟨hT.free, ho, hrm, fun x hx => ⟨hA x hx, fun e => hom (e ▸ hx)⟩⟩, fun g a b hab ha hb ta tb hg => ?_⟩
  subst hab
  have hlk1 : lk ≠ off + 8 ∧ lk ≠ off + 16 := by have := hh.off ho hoff; omega
  have hlk2 : ∀ x, x ∈ a ++ b → lk ≠ x + 8 ∧ lk ≠ x + 16 := fun x hx => by have := hh.off (hA x hx) (hout x hx); omega
  have hglk : g lk = off := by rw [hg lk hlk1.1 hlk1.2 hlk2, h2]
  have hpart := hT.free.free_apart
  have hsame : ∀ x, x ∈ pre ++ post → (x + 8 ≠ lk → g (x + 8) = f (x + 8)) ∧ (x + 16 ≠ lk → g (x + 16) = f (x + 16)) := fun x hx => by
    have hx1 := hpart.son (hh.sub x hx) ho (fun e => hoff (e ▸ hx))
    have hx2 : ∀ y, y ∈ a ++ b → (x + 8 ≠ y + 8 ∧ x + 8 ≠ y + 16) ∧ x + 16 ≠ y + 8 ∧ x + 16 ≠ y + 16 := fun y hy => by
      have := hpart.son (hh.sub x hx) (hA y hy) (fun e => hout y hy (e ▸ hx))
      exact ⟨⟨this.1, this.2.1⟩, this.2.2⟩
    exact ⟨fun h3 => (hg _ hx1.1 hx1.2.1 fun y hy => (hx2 y hy).1).trans (h1 _ h3), fun h3 => (hg _ hx1.2.2.1 hx1.2.2.2 fun y hy => (hx2 y hy).2).trans (h1 _ h3)⟩
  have h32 : ∀ x, x ∈ F → 32 ≠ x + 8 ∧ 32 ≠ x + 16 := fun x hx => by have := hT.free.on x hx; omega
  have hroot : 32 ≠ lk → g 32 = f 32 := fun h3 => (hg 32 (h32 off ho).1 (h32 off ho).2 fun x hx => h32 x (hA x hx)).trans (h1 32 h3)
  have htop : TreeOf g rkN (g lk) (a ++ off :: b) := by
    rw [hglk]
    exact TreeOf.node ho0 (fun x hx => hrk x (by simp [hx])) (fun x hx => hrk x (by simp [hx])) ta tb
  have hfill := hh.fill g (a ++ off :: b) hsame hroot (fun x hx => by
    simp only [List.mem_append, List.mem_cons] at hx
    rcases hx with hx | rfl | hx
    · exact hP x (by simp [hx])
    · exact hPo
    · exact hP x (by simp [hx])) htop
  constructor
  · have hins : insK z off (pre ++ (a ++ b) ++ post) = pre ++ (a ++ off :: b) ++ post := by
      rw [show pre ++ (a ++ b) ++ post = (pre ++ a) ++ (b ++ post) by simp]
      rw [insK_right fun y hy => by
        rcases List.mem_append.1 hy with hy | hy
        · exact (hp1 y hy).anti
        · exact (ha y hy).anti]
      have : insK z off (b ++ post) = off :: (b ++ post) := by
        cases hbp : b ++ post with
        | nil => rfl
        | cons c r =>
          have hc : blkLt z off c := by
            have : c ∈ b ++ post := by rw [hbp]; simp
            rcases List.mem_append.1 this with hy | hy
            · exact hb c hy
            · exact hp2 c hy
          rw [insK_cons, if_pos hc]
      rw [this]
      simp
    rw [hins]
    exact hfill
  · intro q q1 q2
    rw [hg q (q2 off ho).1 (q2 off ho).2 (fun x hx => q2 x (hA x hx))]
    refine h1 q fun e => ?_
    rcases hlink with e2 | ⟨x, hx, e2⟩
    · exact q1 (e.trans e2)
    · have := q2 x hx
      omega
end
end Go.Proofs.YtcbdbflgfhbikaaGreat
namespace Go.Proofs.YtcbdbflgfhbikaaGreat
open Go.RowKit
structure Bed (ws : List Nat) (l : List (Nat × Nat)) (z : Nat → Nat) (F : List Nat) : Prop where
  free : FreeL F
  long : 8 * ws.length = 4800
  keys : ∀ x, x ∈ F → tS (txSee ws l x) = z x
def LinkOf (F : List Nat) (lk : Nat) : Prop := lk = 32 ∨ ∃ x, x ∈ F ∧ (lk = x + 8 ∨ lk = x + 16)
section
variable {w : World} {T M : Nat} {R : Option Nat} {B D : Nat} {ws : List Nat} {l l' : List (Nat × Nat)} {z : Nat → Nat} {F S : List Nat} {off lk n k v : Nat}
theorem Bed.stand (h : Bed ws l z F) (hl : LinkOf F lk) : stands ws lk ∧ lk < 18446744073709551616 := by
  have := h.long
  unfold stands
  rcases hl with rfl | ⟨x, hx, e⟩
  · omega
  · have := h.free.on x hx
    omega
theorem Bed.first (h : Bed ws l z F) {x : Nat} (hx : x ∈ F) : stands ws x ∧ x + 16 < 18446744073709551616 := by
  have := h.long
  have := h.free.on x hx
  unfold stands
  omega
theorem Bed.kept (h : Bed ws l z F) (hk : Kept F (txSee ws l) (txSee ws l')) : Bed ws l' z F :=
  ⟨h.free, h.long, fun x hx => by rw [hk.first h.free hx]; exact h.keys x hx⟩
theorem Bed.led (h : Bed ws l z F) (hl : LinkOf F lk) (hk : Led ws l lk v l') : Bed ws l' z F := h.kept (Kept.put hl hk.off)
theorem FindAt.linkOf {f : Nat → Nat} (h : FindAt f z F S off lk n k) : LinkOf F lk := h.link
theorem son_rank {f : Nat → Nat} {s : Nat} {L : List Nat} (ht : TreeOf f rkN s L) (hr : ∀ x, x ∈ L → rkN x < rkN n) (h0 : 0 < rkN n) : rkN s < rkN n := by
  by_cases e : s = 0
  · rw [e, rkN_zero]; exact h0
  · exact hr s (ht.mem e)
theorem FindAt.sons {f : Nat → Nat} (h : FindAt f z F S off lk n k) (h0 : n ≠ 0) (hr : 0 < rkN n) : rkN (f (n + 8)) < rkN n ∧ rkN (f (n + 16)) < rkN n := by
  obtain ⟨pre, m, post, P, rfl, rfl, hh, e, ht, hP, hPo, h1, h2⟩ := h
  obtain ⟨L, R, rfl, hL, hR, tL, tR⟩ := ht.some h0
  exact ⟨son_rank tL hL hr, son_rank tR hR hr⟩
def FindE (f z : Nat → Nat) (F S : List Nat) (off lk n : Nat) : Prop := ∃ k, FindAt f z F S off lk n k
structure Found (f z : Nat → Nat) (F S : List Nat) (off lk n : Nat) : Prop where
  way : FindE f z F S off lk n
  stop : n = 0 ∨ rkN n ≤ rkN off
  is : n = off ↔ off ∈ S
  in_ : off ∈ S → n ≠ 0
set_option maxHeartbeats 4000000 in
theorem tfind_any (h : Thinks w T M R B D ws l) (hB : Bed ws l z F) (hT : Tame z F S) (ht : TreeOf (txSee ws l) rkN (txSee ws l 32) S) (ho : off ∈ F) :
    Calls Tryz.prog 92 #[.agg #[.pointer (some ⟨T, 0, none⟩)], .int .u64 off] w fun e w' => w.grownBy w' none ∧ ∃ lk n, Found (txSee ws l) z F S off lk n ∧ txSee ws l lk = n ∧ LinkOf F lk ∧ e = .returned (.tuple #[.int .u64 lk, .bool (decide (off ∈ S))]) := by
  have ho64 := (hB.first ho).2
  have hkey := fun (w1 : World) (hg : w.grownBy w1 none) => tkey_any (h.later hg) off (by omega)
  rw [hB.keys off ho] at hkey
  obtain ⟨zo, hzo⟩ : ∃ q, z off = q := ⟨_, rfl⟩
  rw [hzo] at hkey
  have hload := fun (w1 : World) (hg : w.grownBy w1 none) (q : Nat) (hq : q < 18446744073709551616) => txload_any (h.later hg) q hq
  have hl32 : ∀ w1 : World, w.grownBy w1 none → Calls Tryz.prog 17 #[.pointer (some ⟨T, 0, none⟩), .int .u64 32] w1 fun e w' => e = .returned (.int .u64 (txSee ws l 32 : Nat)) ∧ w1.grownBy w' none := fun w1 hg => hload w1 hg 32 (by omega)
  have htl := fun (w1 : World) (hg : w.grownBy w1 none) (n : Nat) (hn : n ∈ F) (hk : blkLt z off n) => toward_left (h.later hg) n zo off (by have := (hB.first hn).2; omega) (by rw [hB.keys n hn, ← hzo]; exact hk)
  have htr := fun (w1 : World) (hg : w.grownBy w1 none) (n : Nat) (hn : n ∈ F) (hk : ¬ blkLt z off n) => toward_right (h.later hg) n zo off (hB.first hn).2 (by rw [hB.keys n hn, ← hzo]; exact hk)
  have hst := find_start (off := off) hT ht
  have hend := fun lk n (hx : FindE (txSee ws l) z F S off lk n) (hr : n = 0 ∨ rkN n ≤ rkN off) => (show Found (txSee ws l) z F S off lk n by
    obtain ⟨k, hx2⟩ := hx
    have := find_end hT ho hx2 hr
    exact ⟨⟨k, hx2⟩, hr, this.1, this.2⟩)
  obtain ⟨f, ef⟩ : ∃ f, txSee ws l = f := ⟨_, rfl⟩
  rw [ef] at hload hl32 hst hend ⊢
  have hnF : ∀ n, n ∈ S → n ∈ F := hT.sub
  have HT := Lib.hid hT
  have HB := Lib.hid hB
  have HS := Lib.hid hst
  have HN := Lib.hid hend
  have hmix := fun x w => mix_rk x w
  obtain ⟨r0, hr0⟩ : ∃ q, f 32 = q := ⟨_, rfl⟩
  rw [hr0] at hl32
  have HR0 := Lib.hid hr0
  obtain ⟨bS, hbS⟩ : ∃ q, decide (off ∈ S) = q := ⟨_, rfl⟩
  rw [hbS]
  have HBS := Lib.hid hbS
  clear hst hend hT hB ht h hzo ef hr0 hbS
  go_enter Tryz.func92, Tryz.ntmps92
  go_wp2_with (first | (go_at_call 101; (with_reducible refine (hkey _ (World.grownBy_alloc _ _ _)).mono ?_); rintro e w1 ⟨rfl, hg1⟩; have HB1 := Lib.hid (two_held (heap_alloc_new' w1 (.cells #[.int .u64 zo, .int .u64 off] 140)) (grown_refl _ _)); have HA1 := Lib.hid (one_first (grown_trans hg1 (World.grownBy_alloc w1 (.cells #[.int .u64 zo, .int .u64 off] 140) none))); have HG1 := Lib.hid (grown_trans (World.grownBy_alloc w (.cells #[.pointer (some ⟨T, 0, none⟩)] 135) none) (grown_trans hg1 (World.grownBy_alloc w1 (.cells #[.int .u64 zo, .int .u64 off] 140) none))); obtain ⟨k0, k1⟩ := two_cells HB1.out; have k2 := cell_of_one HA1.out) | (go_at_call 17; (with_reducible refine (hl32 _ HG1.out).mono ?_); rintro e w2 ⟨rfl, hg2⟩))
  go_loopw [4, 7] (fun i j wr => ∃ lk n, i = .int .u64 (lk : Nat) ∧ j = .int .u64 (n : Nat) ∧ FindE f z F S off lk n ∧ w2.grownBy wr none) (fun i j _ => rkN (intOf j).toNat)
  case atStart => exact ⟨32, r0, rfl, rfl, ⟨_, HR0.out ▸ HS.out⟩, grown_refl _ _⟩
  case round =>
    obtain ⟨lk, n, rfl, rfl, hF, hgr⟩ := hrel
    have G := grown_trans HG1.out (grown_trans hg2 hgr)
    have c2 := cell_of_one (((grown_trans hg2 hgr).block _ (lt_of_block HA1.out) (by simp)).trans HA1.out)
    obtain ⟨k0, k1⟩ := two_cells (two_held HB1.out (grown_trans hg2 hgr))
    have HF := Lib.hid hF
    have hn64 : n ≠ 0 → n ∈ F := fun h0 => by obtain ⟨k, hF⟩ := HF.out; exact hnF n (hF.mem h0)
    have HNF := Lib.hid hn64
    clear hF hn64
    by_cases h0 : n = 0
    · subst h0
      have hE := HN.out lk 0 HF.out (.inl rfl)
      have hd : bS = false := by rw [← HBS.out]; exact decide_eq_false fun hm => hE.in_ hm rfl
      have HE := Lib.hid hE
      have HD := Lib.hid hd
      clear hE hd
      go_wp2
      refine bodyPost_ret (v := .tuple #[.int .u64 lk, .bool false]) (by simp [results, Tryz.results92, go_sem]) rfl ?_
      refine ⟨G, lk, 0, HE.out, ?_, ?_, by rw [HD.out]⟩
      · obtain ⟨k, hk⟩ := HE.out.way; exact hk.at_
      · obtain ⟨k, hk⟩ := HE.out.way; exact hk.linkOf
    · have h0' : ¬ (n : Int) = 0 := by omega
      have hnF := HNF.out h0
      by_cases hr : rkN off < rkN n
      · have hr' : ((rkN off : Nat) : Int) < (rkN n : Nat) := by omega
        by_cases hlt : blkLt z off n
        · have htl1 := fun w1 (hg : w.grownBy w1 none) => htl w1 hg n hnF hlt
          have hld := fun w1 (hg : w.grownBy w1 none) => hload w1 hg (n + 8) (by have := (HB.out.first hnF).2; omega)
          obtain ⟨y, hy⟩ : ∃ y, f (n + 8) = y := ⟨_, rfl⟩
          have hnext : FindE f z F S off (n + 8) y ∧ rkN y < rkN n := by
            obtain ⟨k, hF⟩ := HF.out
            obtain ⟨j, _, hj⟩ := find_left HT.out hF h0 hr hlt
            exact ⟨⟨j, hy ▸ hj⟩, hy ▸ (hF.sons h0 (by omega)).1⟩
          obtain ⟨n8, e8⟩ : ∃ q, n + 8 = q := ⟨_, rfl⟩
          rw [hy] at hld
          rw [e8] at hld htl1 hnext
          obtain ⟨hn1, hn2⟩ := hnext
          have HN1 := Lib.hid hn1
          have HN2 := Lib.hid hn2
          clear hy hr hlt hn1 hn2 h0 e8 htl htr hload hkey hl32
          go_wp2_with (first | (go_at_call 128; (with_reducible refine (hmix _ _).mono ?_); rintro e w3 ⟨rfl, rfl⟩) | (go_at_call 133; (with_reducible refine (htl1 _ G).mono ?_); rintro e w4 ⟨rfl, hg4⟩; have c3 := cell_of_one (((grown_trans (grown_trans hg2 hgr) hg4).block _ (lt_of_block HA1.out) (by simp)).trans HA1.out)) | (go_at_call 17; (with_reducible refine (hld _ (grown_trans G hg4)).mono ?_); rintro e w5 ⟨rfl, hg5⟩))
          go_roundw
          case rel => exact ⟨n8, y, by go_num, by go_num, HN1.out, grown_trans hgr (grown_trans hg4 hg5)⟩
          case measure => simpa [intOf] using HN2.out
        · have htl1 := fun w1 (hg : w.grownBy w1 none) => htr w1 hg n hnF hlt
          have hld := fun w1 (hg : w.grownBy w1 none) => hload w1 hg (n + 16) (HB.out.first hnF).2
          obtain ⟨y, hy⟩ : ∃ y, f (n + 16) = y := ⟨_, rfl⟩
          have hnext : FindE f z F S off (n + 16) y ∧ rkN y < rkN n := by
            obtain ⟨k, hF⟩ := HF.out
            obtain ⟨j, _, hj⟩ := find_right HT.out hF h0 hr (blkLt.total hlt (fun e => by rw [e] at hr; omega))
            exact ⟨⟨j, hy ▸ hj⟩, hy ▸ (hF.sons h0 (by omega)).2⟩
          obtain ⟨n8, e8⟩ : ∃ q, n + 16 = q := ⟨_, rfl⟩
          rw [hy] at hld
          rw [e8] at hld htl1 hnext
          obtain ⟨hn1, hn2⟩ := hnext
          have HN1 := Lib.hid hn1
          have HN2 := Lib.hid hn2
          clear hy hr hlt hn1 hn2 h0 e8 htl htr hload hkey hl32
          go_wp2_with (first | (go_at_call 128; (with_reducible refine (hmix _ _).mono ?_); rintro e w3 ⟨rfl, rfl⟩) | (go_at_call 133; (with_reducible refine (htl1 _ G).mono ?_); rintro e w4 ⟨rfl, hg4⟩; have c3 := cell_of_one (((grown_trans (grown_trans hg2 hgr) hg4).block _ (lt_of_block HA1.out) (by simp)).trans HA1.out)) | (go_at_call 17; (with_reducible refine (hld _ (grown_trans G hg4)).mono ?_); rintro e w5 ⟨rfl, hg5⟩))
          go_roundw
          case rel => exact ⟨n8, y, by go_num, by go_num, HN1.out, grown_trans hgr (grown_trans hg4 hg5)⟩
          case measure => simpa [intOf] using HN2.out
      · have hr' : ¬ ((rkN off : Nat) : Int) < (rkN n : Nat) := by omega
        have hE := HN.out lk n HF.out (.inr (by omega))
        have hd : ((n : Int) == (off : Int)) = bS := by
          rw [← HBS.out]
          by_cases e : n = off
          · rw [decide_eq_true (hE.is.1 e), e]; simp
          · rw [decide_eq_false (fun hm => e (hE.is.2 hm))]
            simp only [beq_eq_false_iff_ne, ne_eq]
            omega
        have HE := Lib.hid hE
        clear hE hr h0 htl htr hload hkey hl32
        go_wp2_with (first | (go_at_call 128; (with_reducible refine (hmix _ _).mono ?_); rintro e w3 ⟨rfl, rfl⟩))
        refine bodyPost_ret (v := .tuple #[.int .u64 lk, .bool bS]) (by simp [results, Tryz.results92, go_sem, hd]; intro _; omega) rfl ?_
        refine ⟨G, lk, n, HE.out, ?_, ?_, rfl⟩
        · obtain ⟨k, hk⟩ := HE.out.way; exact hk.at_
        · obtain ⟨k, hk⟩ := HE.out.way; exact hk.linkOf
end
end Go.Proofs.YtcbdbflgfhbikaaGreat
namespace Go.Proofs.YtcbdbflgfhbikaaGreat
open Go.RowKit
set_option maxRecDepth 100000
structure Nd where
  s : Nat
  o : Nat
  l : Nat
  r : Nat
instance : Inhabited Nd := ⟨⟨0, 0, 0, 0⟩⟩
def Nd.row (x : Nd) : List Value := [.int .u64 (x.s : Nat), .int .u64 (x.o : Nat), .int .u64 (x.l : Nat), .int .u64 (x.r : Nat)]
def cellsN (l : List Nd) : List Value := l.flatMap Nd.row
theorem cellsN_cons (a : Nd) (l : List Nd) : cellsN (a :: l) = a.row ++ cellsN l := rfl
theorem cellsN_len : ∀ l : List Nd, (cellsN l).length = l.length * 4
  | [] => rfl
  | a :: l => by rw [cellsN_cons, List.length_append, cellsN_len l]; show 4 + _ = _; simp only [List.length_cons]; omega
theorem cellsN_at : ∀ (l : List Nd) (k i : Nat), k < l.length → i < 4 → (cellsN l)[k * 4 + i]? = (l.getD k default).row[i]?
  | [], k, i, h, _ => by simp at h
  | a :: l, 0, i, h, hi => by
    rw [cellsN_cons, Nat.zero_mul, Nat.zero_add, List.getElem?_append_left (by show i < 4; exact hi)]; rfl
  | a :: l, k + 1, i, h, hi => by
    rw [cellsN_cons, List.getElem?_append_right (by show 4 ≤ _; omega)]
    show (cellsN l)[(k + 1) * 4 + i - 4]? = _
    rw [show (k + 1) * 4 + i - 4 = k * 4 + i by omega, cellsN_at l k i (by simpa using h) hi]
    simp
theorem set_four (a : Nd) (l : List Value) (m : Nat) (v : Value) : (a.row ++ l).set (m + 4) v = a.row ++ l.set m v := by
  simp [Nd.row]
theorem cellsN_setL : ∀ (l : List Nd) (k v : Nat), k < l.length → (cellsN l).set (k * 4 + 2) (.int .u64 (v : Nat)) = cellsN (l.set k { l.getD k default with l := v })
  | [], k, v, h => by simp at h
  | a :: l, 0, v, h => by simp [cellsN_cons, Nd.row]
  | a :: l, k + 1, v, h => by
    rw [show (k + 1) * 4 + 2 = (k * 4 + 2) + 4 by omega, cellsN_cons, set_four, cellsN_setL l k v (by simpa using h)]
    simp [cellsN_cons]
theorem cellsN_setR : ∀ (l : List Nd) (k v : Nat), k < l.length → (cellsN l).set (k * 4 + 3) (.int .u64 (v : Nat)) = cellsN (l.set k { l.getD k default with r := v })
  | [], k, v, h => by simp at h
  | a :: l, 0, v, h => by simp [cellsN_cons, Nd.row]
  | a :: l, k + 1, v, h => by
    rw [show (k + 1) * 4 + 3 = (k * 4 + 3) + 4 by omega, cellsN_cons, set_four, cellsN_setR l k v (by simpa using h)]
    simp [cellsN_cons]
theorem cellsN_setK : ∀ (l : List Nd) (k x y : Nat), k < l.length → ((cellsN l).set (k * 4) (.int .u64 (x : Nat))).set (k * 4 + 1) (.int .u64 (y : Nat)) = cellsN (l.set k { l.getD k default with s := x, o := y })
  | [], k, x, y, h => by simp at h
  | a :: l, 0, x, y, h => by simp [cellsN_cons, Nd.row]
  | a :: l, k + 1, x, y, h => by
    rw [show (k + 1) * 4 = k * 4 + 4 by omega, show k * 4 + 4 + 1 = (k * 4 + 1) + 4 by omega, cellsN_cons, set_four, set_four, cellsN_setK l k x y (by simpa using h)]
    simp [cellsN_cons]
def NodesAt (w : World) (g : Nat) (nds : List Nd) : Prop := w.heap[g]? = some (.cells (cellsN nds).toArray 142 (0, 0))
section
variable {w w' : World} {g k : Nat} {nds : List Nd}
theorem NodesAt.lt (h : NodesAt w g nds) : g < w.heap.size := lt_of_block h
theorem NodesAt.cell (h : NodesAt w g nds) (hk : k < nds.length) : w.cell? ⟨g, k * 4, none⟩ = some (.int .u64 ((nds.getD k default).s : Nat)) ∧ w.cell? ⟨g, k * 4 + 1, none⟩ = some (.int .u64 ((nds.getD k default).o : Nat)) ∧ w.cell? ⟨g, k * 4 + 2, none⟩ = some (.int .u64 ((nds.getD k default).l : Nat)) ∧ w.cell? ⟨g, k * 4 + 3, none⟩ = some (.int .u64 ((nds.getD k default).r : Nat)) := by
  have hc : ∀ i, i < 4 → w.cell? ⟨g, k * 4 + i, none⟩ = (nds.getD k default).row[i]? := fun i hi => by
    unfold World.cell?
    rw [show w.heap[g]? = _ from h]
    simpa using cellsN_at nds k i hk hi
  exact ⟨hc 0 (by omega), hc 1 (by omega), hc 2 (by omega), hc 3 (by omega)⟩
theorem NodesAt.frozen (h : NodesAt w g nds) (i : Nat) : w.frozen? ⟨g, i, none⟩ = false := by
  unfold World.frozen?
  rw [show w.heap[g]? = _ from h]
  simp
theorem NodesAt.later {row : Option Nat} (h : NodesAt w g nds) (hg : w.grownBy w' row) (hr : some g ≠ row) : NodesAt w' g nds := (hg.block g h.lt hr).trans h
theorem NodesAt.setL (h : NodesAt w g nds) (hk : k < nds.length) (v : Nat) : NodesAt (w.setCell ⟨g, k * 4 + 2, none⟩ (.int .u64 (v : Nat))) g (nds.set k { nds.getD k default with l := v }) := by
  unfold NodesAt
  rw [heap_setCell_same h, List.setIfInBounds_toArray, cellsN_setL nds k v hk]
theorem NodesAt.setR (h : NodesAt w g nds) (hk : k < nds.length) (v : Nat) : NodesAt (w.setCell ⟨g, k * 4 + 3, none⟩ (.int .u64 (v : Nat))) g (nds.set k { nds.getD k default with r := v }) := by
  unfold NodesAt
  rw [heap_setCell_same h, List.setIfInBounds_toArray, cellsN_setR nds k v hk]
theorem NodesAt.setK (h : NodesAt w g nds) (hk : k < nds.length) (x y : Nat) : NodesAt ((w.setCell ⟨g, k * 4, none⟩ (.int .u64 (x : Nat))).setCell ⟨g, k * 4 + 1, none⟩ (.int .u64 (y : Nat))) g (nds.set k { nds.getD k default with s := x, o := y }) := by
  unfold NodesAt
  rw [heap_setCell_same (heap_setCell_same h _), List.setIfInBounds_toArray, List.setIfInBounds_toArray, cellsN_setK nds k x y hk]
end
theorem flatK_cells (l : List Nd) : Go.Sort.flatK Nd.row 4 l.toArray = (cellsN l).toArray := by
  apply Array.ext
  · simp [cellsN_len]
  · intro i h1 h2
    simp only [Go.Sort.size_flatK, List.size_toArray] at h1
    have h3 := Go.Sort.get_flatK Nd.row 4 l.toArray i (by simpa using h1)
    rw [getElem!_pos _ i (by simpa using h1)] at h3
    rw [h3]
    have hk : i / 4 < l.length := by omega
    have h4 := cellsN_at l (i / 4) (i % 4) hk (by omega)
    rw [show i / 4 * 4 + i % 4 = i by omega] at h4
    have h5 : l.toArray[i / 4]! = l.getD (i / 4) default := by
      rw [getElem!_pos _ _ (by simpa using hk), List.getD_eq_getElem?_getD, List.getElem?_eq_getElem hk]
      simp
    rw [h5]
    have hlen : i % 4 < (l.getD (i / 4) default).row.length := by show _ < 4; omega
    rw [getElem!_pos (l.getD (i / 4) default).row (i % 4) hlen]
    rw [List.getElem?_eq_getElem hlen] at h4
    have h6 : i < (cellsN l).length := by rw [cellsN_len]; exact h1
    rw [List.getElem?_eq_getElem h6] at h4
    simp only [List.getElem_toArray]
    exact (Option.some.inj h4).symm
def cfN (x y : Nd) : Int := cmpK x.s x.o y.s y.o
theorem ltOf_cfN (x y : Nd) : Go.Proofs.ltOf cfN x y = decide (ltK x.s x.o y.s y.o) := by
  unfold Go.Proofs.ltOf cfN
  by_cases h : ltK x.s x.o y.s y.o
  · rw [cmpK_lt h, decide_eq_true h]; rfl
  · rw [decide_eq_false h]
    rcases cmpK_ge h with e | e <;> rw [e] <;> rfl
theorem swo_cfN : Go.Sort.SWO (Go.Proofs.ltOf cfN) where
  irrefl x := by rw [ltOf_cfN]; exact decide_eq_false (by unfold ltK; omega)
  trans x y z h1 h2 := by
    rw [ltOf_cfN] at *
    have h1 := of_decide_eq_true h1
    have h2 := of_decide_eq_true h2
    exact decide_eq_true (by unfold ltK at *; omega)
  ntrans x y z h1 h2 := by
    rw [ltOf_cfN] at *
    have h1 := of_decide_eq_false h1
    have h2 := of_decide_eq_false h2
    exact decide_eq_false (by unfold ltK at *; omega)
theorem four_cells {w : World} {b : Nat} {x y z u : Value} {t : TypeId} {fr : Nat × Nat} (h : w.heap[b]? = some (.cells #[x, y, z, u] t fr)) : w.cell? ⟨b, 0, none⟩ = some x ∧ w.cell? ⟨b, 1, none⟩ = some y ∧ w.cell? ⟨b, 2, none⟩ = some z ∧ w.cell? ⟨b, 3, none⟩ = some u := by
  refine ⟨?_, ?_, ?_, ?_⟩ <;> simp [World.cell?, h]
set_option maxHeartbeats 1000000 in
theorem shape1_any (x y : Nd) (W : World) : Calls Tryz.prog 126 #[.agg x.row.toArray, .agg y.row.toArray] W fun e w' => e = .returned (.int .i64 (cfN x y)) ∧ ∃ q os', w' = Go.Sort.grow (W.drewN q) os' := by
  obtain ⟨s, o, l, r⟩ := x
  obtain ⟨s', o', l', r'⟩ := y
  unfold cfN
  simp only [Nd.row]
  have hc := fun w => tcompare_any s o s' o' w
  obtain ⟨c, ec⟩ : ∃ c, cmpK s o s' o' = c := ⟨_, rfl⟩
  rw [ec] at hc ⊢
  have ha : ((W.alloc (.cells #[.int .u64 s, .int .u64 o, .int .u64 l, .int .u64 r] 142)).alloc (.cells #[.int .u64 s', .int .u64 o', .int .u64 l', .int .u64 r'] 142)).heap[W.heap.size]? = some (.cells #[.int .u64 s, .int .u64 o, .int .u64 l, .int .u64 r] 142 (0, 0)) := (Below.heap_alloc _ _ _ (by simp)).trans (heap_alloc_new' W _)
  have hb : ((W.alloc (.cells #[.int .u64 s, .int .u64 o, .int .u64 l, .int .u64 r] 142)).alloc (.cells #[.int .u64 s', .int .u64 o', .int .u64 l', .int .u64 r'] 142)).heap[W.heap.size + 1]? = some (.cells #[.int .u64 s', .int .u64 o', .int .u64 l', .int .u64 r'] 142 (0, 0)) := by
    have := heap_alloc_new' (W.alloc (.cells #[.int .u64 s, .int .u64 o, .int .u64 l, .int .u64 r] 142)) (.cells #[.int .u64 s', .int .u64 o', .int .u64 l', .int .u64 r'] 142)
    rwa [World.size_alloc] at this
  obtain ⟨V, hV⟩ : ∃ V, (W.alloc (.cells #[.int .u64 s, .int .u64 o, .int .u64 l, .int .u64 r] 142)).alloc (.cells #[.int .u64 s', .int .u64 o', .int .u64 l', .int .u64 r'] 142) = V := ⟨_, rfl⟩
  rw [hV] at ha hb
  obtain ⟨a0, a1, a2, a3⟩ := four_cells ha
  obtain ⟨b0, b1, b2, b3⟩ := four_cells hb
  clear ha hb ec
  go_enter Tryz.func126, Tryz.ntmps126
  go_wp2_with (first | (go_at_call 127; (with_reducible refine (hc _).mono ?_); rintro e w1 ⟨rfl, q, os, rfl⟩))
  go_ret
  refine ⟨rfl, q, #[.cells #[.int .u64 s, .int .u64 o, .int .u64 l, .int .u64 r] 142, .cells #[.int .u64 s', .int .u64 o', .int .u64 l', .int .u64 r'] 142] ++ os, ?_⟩
  rw [← hV]
  simp only [Go.Sort.alloc_eq_grow, Go.Sort.grow_grow]
  rw [← Go.Sort.grow_grow, ← Go.Sort.grow_grow]
  rfl
section
variable {w w' : World} {g k : Nat} {nds : List Nd}
theorem put_all {F c : Array Value} (h : c.size = F.size) : Go.Sort.putCells id 0 F c = F := by
  unfold Go.Sort.putCells
  apply Array.ext
  · simpa using h
  · intro i h1 h2
    simp only [Array.getElem_mapIdx, Nat.zero_add, Nat.sub_zero, Nat.zero_le, true_and, id]
    rw [if_pos h2, getElem!_pos _ i h2]
set_option maxHeartbeats 1000000 in
theorem sort_any (h : NodesAt w g nds) (hl : nds.length ≤ 1000000) (cap : Nat) :
    Calls Tryz.prog 125 #[.slice (some ⟨g, 0, none⟩) nds.length cap, .func (.func 126) #[] #[]] w fun e w' => e = .returned (.tuple #[]) ∧ ∃ nd', NodesAt w' g nd' ∧ nd'.Perm nds ∧ nd'.Pairwise (fun x y => ¬ ltK y.s y.o x.s x.o) ∧ w.grownBy w' (some g) := by
  have eg : ∀ args w, (callFunc 126 args).run Tryz.prog w = .ok (.enter 126 args) w := enters_of Tryz.func126 (by kernel_rfl) rfl
  have hH : Go.Sort.HoldsK Nd.row 4 w g 0 nds.toArray := by
    unfold Go.Sort.HoldsK
    rw [flatK_cells]
    intro j hj
    rw [Nat.zero_add]
    refine ⟨?_, h.frozen j⟩
    unfold World.cell?
    rw [show w.heap[g]? = _ from h]
    simp only [Option.isSome_none, Bool.false_eq_true, if_false, id]
    rw [getElem!_pos _ j hj, Array.getElem?_eq_getElem hj]
  have hcmp : Go.Proofs.CmpLays Tryz.prog 126 #[] Nd.row 4 cfN g 0 nds.toArray.size w := fun m os dk hs x y => shape1_any x y _
  have hcon := Go.Proofs.AnyQ.slices_SortFunc sortNode 4 Tryz.isAgg142 Tryz.sizeOf142 Nd.row (fun _ => rfl) (fun x v hv => by simp [Nd.row] at hv; rcases hv with rfl | rfl | rfl | rfl <;> rfl) cfN swo_cfN 126 #[] g 0 cap nds.toArray w eg hcmp hH h.lt (by simp; omega)
  have hcon2 : Calls Tryz.prog 125 #[.slice (some ⟨g, 0, none⟩) nds.length cap, .func (.func 126) #[] #[]] w _ := hcon
  refine hcon2.mono ?_
  rintro e w' ⟨rfl, d', n, os, hp, hs, rfl⟩
  obtain ⟨p1, p2, p3⟩ := hp
  have hsz : d'.size = nds.length := by simpa using p1
  have hb : (Go.Proofs.sortWorldK Nd.row 4 w g 0 n d' os).heap[g]? = some (.cells (cellsN d'.toList).toArray 142 (0, 0)) := by
    show ((w.heap.modify g (Go.Sort.onCells (Go.Sort.putCells id 0 (Go.Sort.flatK Nd.row 4 d')))) ++ os)[g]? = _
    rw [Array.getElem?_append_left (by simpa using h.lt), Array.getElem?_modify, if_pos rfl, show w.heap[g]? = _ from h]
    simp only [Option.map_some, Go.Sort.onCells]
    rw [put_all (by simp [cellsN_len, hsz])]
    have := flatK_cells d'.toList
    simp only [Array.toArray_toList] at this
    rw [this]
  refine ⟨rfl, d'.toList, hb, ?_, ?_, ?_⟩
  · have h3 : (d'.extract 0 nds.toArray.size).toList.Perm (nds.toArray.extract 0 nds.toArray.size).toList := p3
    have e1 : d'.extract 0 nds.toArray.size = d' := by rw [← p1]; exact Array.extract_size
    rw [e1] at h3
    simpa using h3
  · rw [List.pairwise_iff_getElem]
    intro i j hi hj hij
    have h3 := hs i j (Nat.zero_le _) hij (by simp at hj ⊢; omega)
    have hi' : i < d'.size := by simpa using hi
    have hj' : j < d'.size := by simpa using hj
    rw [ltOf_cfN, getElem!_pos _ j hj', getElem!_pos _ i hi'] at h3
    have h4 := of_decide_eq_false h3
    simpa using h4
  · refine ⟨rfl, rfl, rfl, ?_, fun i hi hne => ?_⟩
    · show w.heap.size ≤ ((w.heap.modify g _) ++ os).size
      simp
    · show ((w.heap.modify g (Go.Sort.onCells (Go.Sort.putCells id 0 (Go.Sort.flatK Nd.row 4 d')))) ++ os)[i]? = _
      rw [Array.getElem?_append_left (by simpa using hi), Array.getElem?_modify, if_neg (fun e => hne (by rw [e]))]
end
end Go.Proofs.YtcbdbflgfhbikaaGreat
