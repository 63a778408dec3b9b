/-
  Package tree: the contract of find: the link below which a block stands, or would.
  Conditions: the Tx stands in memory; the words say a tree of blocks.
-/
import Derived.Test.YthhboidjibdahaaGreatTreeB
namespace Go.Proofs.YthhboidjibdahaaGreat
open Go.RowKit
set_option linter.unusedVariables false
set_option linter.unusedSimpArgs false

/-- A segment of 4800 bytes in which free blocks stand, and the sizes that their first words tell. -/
structure Bed (ws : List Nat) (l : List (Nat × Nat)) (z : Nat → Nat) (F : List Nat) : Prop where
  free : FreeL F
  long : 8 * ws.length = 4800
  keys : ∀ x, x ∈ F → tS (txSee ws l x) = z x
/-- a link: the root, or a son of one of these -/
def LinkOf (F : List Nat) (lk : Nat) : Prop := lk = 32 ∨ ∃ x, x ∈ F ∧ (lk = x + 8 ∨ lk = x + 16)
section
variable {w : World} {T M : Nat} {R : Option Nat} {B D : Nat} {ws : List Nat} {l l' : List (Nat × Nat)} {z : Nat → Nat} {F S : List Nat} {off lk n k v : Nat}
theorem Bed.stand (h : Bed ws l z F) (hl : LinkOf F lk) : stands ws lk ∧ lk < 18446744073709551616 := by
  have := h.long
  unfold stands
  rcases hl with rfl | ⟨x, hx, e⟩
  · omega
  · have := h.free.on x hx
    omega
theorem Bed.first (h : Bed ws l z F) {x : Nat} (hx : x ∈ F) : stands ws x ∧ x + 16 < 18446744073709551616 := by
  have := h.long
  have := h.free.on x hx
  unfold stands
  omega
theorem Bed.kept (h : Bed ws l z F) (hk : Kept F (txSee ws l) (txSee ws l')) : Bed ws l' z F :=
  ⟨h.free, h.long, fun x hx => by rw [hk.first h.free hx]; exact h.keys x hx⟩
theorem Bed.led (h : Bed ws l z F) (hl : LinkOf F lk) (hk : Led ws l lk v l') : Bed ws l' z F := h.kept (Kept.put hl hk.off)
theorem FindAt.linkOf {f : Nat → Nat} (h : FindAt f z F S off lk n k) : LinkOf F lk := h.link
/-- the way goes down: ranks fall -/
theorem son_rank {f : Nat → Nat} {s : Nat} {L : List Nat} (ht : TreeOf f rkN s L) (hr : ∀ x, x ∈ L → rkN x < rkN n) (h0 : 0 < rkN n) : rkN s < rkN n := by
  by_cases e : s = 0
  · rw [e, rkN_zero]; exact h0
  · exact hr s (ht.mem e)
theorem FindAt.sons {f : Nat → Nat} (h : FindAt f z F S off lk n k) (h0 : n ≠ 0) (hr : 0 < rkN n) : rkN (f (n + 8)) < rkN n ∧ rkN (f (n + 16)) < rkN n := by
  obtain ⟨pre, m, post, P, rfl, rfl, hh, e, ht, hP, hPo, h1, h2⟩ := h
  obtain ⟨L, R, rfl, hL, hR, tL, tR⟩ := ht.some h0
  exact ⟨son_rank tL hL hr, son_rank tR hR hr⟩
/-- the way, however far it is still -/
def FindE (f z : Nat → Nat) (F S : List Nat) (off lk n : Nat) : Prop := ∃ k, FindAt f z F S off lk n k
/-- What find hands back. -/
structure Found (f z : Nat → Nat) (F S : List Nat) (off lk n : Nat) : Prop where
  way : FindE f z F S off lk n
  stop : n = 0 ∨ rkN n ≤ rkN off
  is : n = off ↔ off ∈ S
  in_ : off ∈ S → n ≠ 0
theorem txSee_lt2 (h : Thinks w T M R B D ws l) (q : Nat) : txSee ws l q < 18446744073709551616 := txSee_lt h.seg.words h.ok q
set_option maxHeartbeats 4000000 in
theorem tfind_any (h : Thinks w T M R B D ws l) (hB : Bed ws l z F) (hT : Tame z F S) (ht : TreeOf (txSee ws l) rkN (txSee ws l 32) S) (ho : off ∈ F) :
    Calls Tryz.prog 23 #[.agg #[.pointer (some ⟨T, 0, none⟩)], .int .u64 off] w fun e w' => w.grownBy w' none ∧ ∃ lk n, Found (txSee ws l) z F S off lk n ∧ txSee ws l lk = n ∧ LinkOf F lk ∧ e = .returned (.tuple #[.int .u64 lk, .bool (decide (off ∈ S))]) := by
  have ho64 := (hB.first ho).2
  have hkey := fun (w1 : World) (hg : w.grownBy w1 none) => tkey_any (h.later hg) off (by omega)
  rw [hB.keys off ho] at hkey
  obtain ⟨zo, hzo⟩ : ∃ q, z off = q := ⟨_, rfl⟩
  rw [hzo] at hkey
  have hload := fun (w1 : World) (hg : w.grownBy w1 none) (q : Nat) (hq : q < 18446744073709551616) => txload_any (h.later hg) q hq
  have hl32 : ∀ w1 : World, w.grownBy w1 none → Calls Tryz.prog 24 #[.pointer (some ⟨T, 0, none⟩), .int .u64 32] w1 fun e w' => e = .returned (.int .u64 (txSee ws l 32 : Nat)) ∧ w1.grownBy w' none := fun w1 hg => hload w1 hg 32 (by omega)
  have htl := fun (w1 : World) (hg : w.grownBy w1 none) (n : Nat) (hn : n ∈ F) (hk : blkLt z off n) => toward_left (h.later hg) n zo off (by have := (hB.first hn).2; omega) (by rw [hB.keys n hn, ← hzo]; exact hk)
  have htr := fun (w1 : World) (hg : w.grownBy w1 none) (n : Nat) (hn : n ∈ F) (hk : ¬ blkLt z off n) => toward_right (h.later hg) n zo off (hB.first hn).2 (by rw [hB.keys n hn, ← hzo]; exact hk)
  have hst := find_start (off := off) hT ht
  have hend := fun lk n (hx : FindE (txSee ws l) z F S off lk n) (hr : n = 0 ∨ rkN n ≤ rkN off) => (show Found (txSee ws l) z F S off lk n by
    obtain ⟨k, hx2⟩ := hx
    have := find_end hT ho hx2 hr
    exact ⟨⟨k, hx2⟩, hr, this.1, this.2⟩)
  obtain ⟨f, ef⟩ : ∃ f, txSee ws l = f := ⟨_, rfl⟩
  rw [ef] at hload hl32 hst hend ⊢
  have hnF : ∀ n, n ∈ S → n ∈ F := hT.sub
  have HT := Lib.hid hT
  have HB := Lib.hid hB
  have HS := Lib.hid hst
  have HN := Lib.hid hend
  have hmix := fun x w => mix_rk x w
  obtain ⟨r0, hr0⟩ : ∃ q, f 32 = q := ⟨_, rfl⟩
  rw [hr0] at hl32
  have HR0 := Lib.hid hr0
  obtain ⟨bS, hbS⟩ : ∃ q, decide (off ∈ S) = q := ⟨_, rfl⟩
  rw [hbS]
  have HBS := Lib.hid hbS
  clear hst hend hT hB ht h hzo ef hr0 hbS
  go_enter Tryz.func23, Tryz.ntmps23
  go_wp2_with (first | (go_at_call 27; (with_reducible refine (hkey _ (World.grownBy_alloc _ _ _)).mono ?_); rintro e w1 ⟨rfl, hg1⟩; have HB1 := Lib.hid (two_held (heap_alloc_new' w1 (.cells #[.int .u64 zo, .int .u64 off] 66)) (grown_refl _ _)); have HA1 := Lib.hid (one_first (grown_trans hg1 (World.grownBy_alloc w1 (.cells #[.int .u64 zo, .int .u64 off] 66) none))); have HG1 := Lib.hid (grown_trans (World.grownBy_alloc w (.cells #[.pointer (some ⟨T, 0, none⟩)] 61) none) (grown_trans hg1 (World.grownBy_alloc w1 (.cells #[.int .u64 zo, .int .u64 off] 66) none))); obtain ⟨k0, k1⟩ := two_cells HB1.out; have k2 := cell_of_one HA1.out) | (go_at_call 24; (with_reducible refine (hl32 _ HG1.out).mono ?_); rintro e w2 ⟨rfl, hg2⟩))
  go_loopw [4, 7] (fun i j wr => ∃ lk n, i = .int .u64 (lk : Nat) ∧ j = .int .u64 (n : Nat) ∧ FindE f z F S off lk n ∧ w2.grownBy wr none) (fun i j _ => rkN (intOf j).toNat)
  case atStart => exact ⟨32, r0, rfl, rfl, ⟨_, HR0.out ▸ HS.out⟩, grown_refl _ _⟩
  case round =>
    obtain ⟨lk, n, rfl, rfl, hF, hgr⟩ := hrel
    have G := grown_trans HG1.out (grown_trans hg2 hgr)
    have c2 := cell_of_one (((grown_trans hg2 hgr).block _ (lt_of_block HA1.out) (by simp)).trans HA1.out)
    obtain ⟨k0, k1⟩ := two_cells (two_held HB1.out (grown_trans hg2 hgr))
    have HF := Lib.hid hF
    have hn64 : n ≠ 0 → n ∈ F := fun h0 => by obtain ⟨k, hF⟩ := HF.out; exact hnF n (hF.mem h0)
    have HNF := Lib.hid hn64
    clear hF hn64
    by_cases h0 : n = 0
    · subst h0
      have hE := HN.out lk 0 HF.out (.inl rfl)
      have hd : bS = false := by rw [← HBS.out]; exact decide_eq_false fun hm => hE.in_ hm rfl
      have HE := Lib.hid hE
      have HD := Lib.hid hd
      clear hE hd
      go_wp2
      refine bodyPost_ret (v := .tuple #[.int .u64 lk, .bool false]) (by simp [results, Tryz.results23, go_sem]) rfl ?_
      refine ⟨G, lk, 0, HE.out, ?_, ?_, by rw [HD.out]⟩
      · obtain ⟨k, hk⟩ := HE.out.way; exact hk.at_
      · obtain ⟨k, hk⟩ := HE.out.way; exact hk.linkOf
    · have h0' : ¬ (n : Int) = 0 := by omega
      have hnF := HNF.out h0
      by_cases hr : rkN off < rkN n
      · have hr' : ((rkN off : Nat) : Int) < (rkN n : Nat) := by omega
        by_cases hlt : blkLt z off n
        · have htl1 := fun w1 (hg : w.grownBy w1 none) => htl w1 hg n hnF hlt
          have hld := fun w1 (hg : w.grownBy w1 none) => hload w1 hg (n + 8) (by have := (HB.out.first hnF).2; omega)
          obtain ⟨y, hy⟩ : ∃ y, f (n + 8) = y := ⟨_, rfl⟩
          have hnext : FindE f z F S off (n + 8) y ∧ rkN y < rkN n := by
            obtain ⟨k, hF⟩ := HF.out
            obtain ⟨j, _, hj⟩ := find_left HT.out hF h0 hr hlt
            exact ⟨⟨j, hy ▸ hj⟩, hy ▸ (hF.sons h0 (by omega)).1⟩
          obtain ⟨n8, e8⟩ : ∃ q, n + 8 = q := ⟨_, rfl⟩
          rw [hy] at hld
          rw [e8] at hld htl1 hnext
          obtain ⟨hn1, hn2⟩ := hnext
          have HN1 := Lib.hid hn1
          have HN2 := Lib.hid hn2
          clear hy hr hlt hn1 hn2 h0 e8 htl htr hload hkey hl32
          go_wp2_with (first | (go_at_call 46; (with_reducible refine (hmix _ _).mono ?_); rintro e w3 ⟨rfl, rfl⟩) | (go_at_call 47; (with_reducible refine (htl1 _ G).mono ?_); rintro e w4 ⟨rfl, hg4⟩; have c3 := cell_of_one (((grown_trans (grown_trans hg2 hgr) hg4).block _ (lt_of_block HA1.out) (by simp)).trans HA1.out)) | (go_at_call 24; (with_reducible refine (hld _ (grown_trans G hg4)).mono ?_); rintro e w5 ⟨rfl, hg5⟩))
          go_roundw
          case rel => exact ⟨n8, y, by go_num, by go_num, HN1.out, grown_trans hgr (grown_trans hg4 hg5)⟩
          case measure => simpa [intOf] using HN2.out
        · have htl1 := fun w1 (hg : w.grownBy w1 none) => htr w1 hg n hnF hlt
          have hld := fun w1 (hg : w.grownBy w1 none) => hload w1 hg (n + 16) (HB.out.first hnF).2
          obtain ⟨y, hy⟩ : ∃ y, f (n + 16) = y := ⟨_, rfl⟩
          have hnext : FindE f z F S off (n + 16) y ∧ rkN y < rkN n := by
            obtain ⟨k, hF⟩ := HF.out
            obtain ⟨j, _, hj⟩ := find_right HT.out hF h0 hr (blkLt.total hlt (fun e => by rw [e] at hr; omega))
            exact ⟨⟨j, hy ▸ hj⟩, hy ▸ (hF.sons h0 (by omega)).2⟩
          obtain ⟨n8, e8⟩ : ∃ q, n + 16 = q := ⟨_, rfl⟩
          rw [hy] at hld
          rw [e8] at hld htl1 hnext
          obtain ⟨hn1, hn2⟩ := hnext
          have HN1 := Lib.hid hn1
          have HN2 := Lib.hid hn2
          clear hy hr hlt hn1 hn2 h0 e8 htl htr hload hkey hl32
          go_wp2_with (first | (go_at_call 46; (with_reducible refine (hmix _ _).mono ?_); rintro e w3 ⟨rfl, rfl⟩) | (go_at_call 47; (with_reducible refine (htl1 _ G).mono ?_); rintro e w4 ⟨rfl, hg4⟩; have c3 := cell_of_one (((grown_trans (grown_trans hg2 hgr) hg4).block _ (lt_of_block HA1.out) (by simp)).trans HA1.out)) | (go_at_call 24; (with_reducible refine (hld _ (grown_trans G hg4)).mono ?_); rintro e w5 ⟨rfl, hg5⟩))
          go_roundw
          case rel => exact ⟨n8, y, by go_num, by go_num, HN1.out, grown_trans hgr (grown_trans hg4 hg5)⟩
          case measure => simpa [intOf] using HN2.out
      · have hr' : ¬ ((rkN off : Nat) : Int) < (rkN n : Nat) := by omega
        have hE := HN.out lk n HF.out (.inr (by omega))
        have hd : ((n : Int) == (off : Int)) = bS := by
          rw [← HBS.out]
          by_cases e : n = off
          · rw [decide_eq_true (hE.is.1 e), e]; simp
          · rw [decide_eq_false (fun hm => e (hE.is.2 hm))]
            simp only [beq_eq_false_iff_ne, ne_eq]
            omega
        have HE := Lib.hid hE
        clear hE hr h0 htl htr hload hkey hl32
        go_wp2_with (first | (go_at_call 46; (with_reducible refine (hmix _ _).mono ?_); rintro e w3 ⟨rfl, rfl⟩))
        refine bodyPost_ret (v := .tuple #[.int .u64 lk, .bool bS]) (by simp [results, Tryz.results23, go_sem, hd]; intro _; omega) rfl ?_
        refine ⟨G, lk, n, HE.out, ?_, ?_, rfl⟩
        · obtain ⟨k, hk⟩ := HE.out.way; exact hk.at_
        · obtain ⟨k, hk⟩ := HE.out.way; exact hk.linkOf
end
end Go.Proofs.YthhboidjibdahaaGreat
