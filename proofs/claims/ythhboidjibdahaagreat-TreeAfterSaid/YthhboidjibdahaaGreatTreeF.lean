/-
  Package tree: the contract of join.
  Conditions: the Tx stands in memory; the words say trees of blocks.
-/
import Derived.Test.YthhboidjibdahaaGreatTreeE
namespace Go.Proofs.YthhboidjibdahaaGreat
open Go.RowKit
set_option linter.unusedVariables false
set_option linter.unusedSimpArgs false
set_option maxRecDepth 100000

/-- join, however far it is still -/
def JoinE (g z : Nat → Nat) (F U : List Nat) (lk left right : Nat) : Prop := ∃ k, JoinAt g z F U lk left right k
section
variable {w : World} {T M : Nat} {R : Option Nat} {B D : Nat} {ws : List Nat} {l l' : List (Nat × Nat)} {z : Nat → Nat} {F S U lst : List Nat} {off lk n k v left right : Nat}
theorem JoinE.lt {g : Nat → Nat} (hU : Lot F U) (h : JoinE g z F U lk left right) : LinkOf F lk ∧ left < 18446744073709551600 ∧ right < 18446744073709551600 ∧ (left ≠ 0 → rkN left ≠ rkN right) ∧ (left ≠ 0 → left ∈ F) ∧ (right ≠ 0 → right ∈ F) := by
  obtain ⟨k, h⟩ := h
  obtain ⟨h1, h2, h3⟩ := h.mem
  have hF : ∀ {x}, x ∈ U → x < 18446744073709551600 := fun {x} hx => by have := hU.free.on x (hU.sub x hx); omega
  have hl : left < 18446744073709551600 := by
    by_cases e : left = 0
    · omega
    · exact hF (h1 e)
  have hr : right < 18446744073709551600 := by
    by_cases e : right = 0
    · omega
    · exact hF (h2 e)
  exact ⟨h.link, hl, hr, fun e e2 => h3 e hU.nodup (rkN_inj (by omega) (by omega) e2), fun e => hU.sub _ (h1 e), fun e => hU.sub _ (h2 e)⟩
set_option maxHeartbeats 4000000 in
theorem tjoin_any (h : Thinks w T M R B D ws l) (hB : Bed ws l z F) (hU : Lot F U) (hJ : JoinE (txSee ws l) z F U lk left right) :
    Calls Tryz.prog 34 #[.agg #[.pointer (some ⟨T, 0, none⟩)], .int .u64 lk, .int .u64 left, .int .u64 right] w fun e w' => e = .returned (.tuple #[]) ∧ ∃ l', Thought w T M R B D ws l' w' ∧ TreeOf (txSee ws l') rkN (txSee ws l' 32) U ∧ Kept F (txSee ws l) (txSee ws l') := by
  obtain ⟨f, ef⟩ : ∃ f, txSee ws l = f := ⟨_, rfl⟩
  rw [ef] at hJ ⊢
  have hmix := fun x w => mix_rk x w
  have hg0 : w.grownBy (w.alloc (.cells #[.pointer (some ⟨T, 0, none⟩)] 61)) none := World.grownBy_alloc _ _ _
  have ha : (w.alloc (.cells #[.pointer (some ⟨T, 0, none⟩)] 61)).heap[w.heap.size]? = some (.cells #[.pointer (some ⟨T, 0, none⟩)] 61 (0, 0)) := heap_alloc_new' _ _
  obtain ⟨W, hW⟩ : ∃ W, w.alloc (.cells #[.pointer (some ⟨T, 0, none⟩)] 61) = W := ⟨_, rfl⟩
  rw [hW] at ha hg0
  have hTW := h.later hg0
  have hbox : ∀ {wr : World} {l2 : List (Nat × Nat)}, Thought W T M R B D ws l2 wr → wr.heap[w.heap.size]? = some (.cells #[.pointer (some ⟨T, 0, none⟩)] 61 (0, 0)) := fun {wr l2} ⟨R', k1, k2, k3⟩ => k2.heap ha (hTW.far ha (by decide) (by decide))
  have HB := Lib.hid hB
  have HU := Lib.hid hU
  have HJ := Lib.hid hJ
  have HTW := Lib.hid (Thought.same hTW (grown_refl W none))
  have HG0 := Lib.hid hg0
  have HEF := Lib.hid ef
  clear hB hU ha hTW h hg0 ef hJ
  go_enter Tryz.func34, Tryz.ntmps34
  go_wp2
  go_loopw [1, 2, 3] (fun p q j wr => ∃ lk left right l2, p = .int .u64 (lk : Nat) ∧ q = .int .u64 (left : Nat) ∧ j = .int .u64 (right : Nat) ∧ JoinE (txSee ws l2) z F U lk left right ∧ Kept F f (txSee ws l2) ∧ Thought W T M R B D ws l2 wr) (fun p q j _ => rkN (intOf q).toNat + rkN (intOf j).toNat)
  case atStart => exact ⟨lk, left, right, l, rfl, rfl, rfl, HEF.out ▸ HJ.out, by rw [HEF.out]; exact Kept.refl, HTW.out⟩
  case round =>
    obtain ⟨lk, left, right, l2, rfl, rfl, rfl, hS, hK, hTh⟩ := hrel
    have X1 := hbox hTh
    obtain ⟨R2, ht2, hq2, hr2⟩ := hTh
    have hBl := HB.out.kept (l' := l2) (HEF.out.symm ▸ hK)
    obtain ⟨hk, hl64, hr64, hne, hlF, hrF⟩ := hS.lt HU.out
    have HK := Lib.hid hK
    have HS := Lib.hid hS
    have c0 := cell_of_one X1
    clear hS hK HJ
    by_cases h0 : left = 0 ∨ right = 0
    · have hfin : ∀ m : Nat, m < 18446744073709551616 → Calls Tryz.prog 25 #[.agg #[.pointer (some ⟨T, 0, none⟩)], .int .u64 lk, .int .u64 m] wr _ := fun m hm => tlead_any ht2 lk m (hBl.stand hk).1 (hBl.stand hk).2 hm
      have HKP := Lib.hid (fun (l3 : List (Nat × Nat)) (hl : Led ws l2 lk (max left right) l3) => (show TreeOf (txSee ws l3) rkN (txSee ws l3 32) U ∧ Kept F f (txSee ws l3) by
        obtain ⟨k, hk0⟩ := HS.out
        exact ⟨join_end HU.out hk0 h0 hl.off hl.at_, HK.out.trans (Kept.put hk hl.off)⟩))
      clear hne hlF hrF
      by_cases hl0 : left = 0
      · subst hl0
        rw [Nat.zero_max] at HKP
        by_cases hr0 : right = 0
        · subst hr0
          have hf1 : Calls Tryz.prog 25 #[.agg #[.pointer (some ⟨T, 0, none⟩)], .int .u64 lk, .int .u64 0] wr _ := hfin 0 (by omega)
          clear hfin h0 hk hBl
          go_wp2_with (first | (go_at_call 25; (with_reducible refine hf1.mono ?_); rintro e w3 ⟨rfl, l3, ht3, hl3⟩))
          go_end0
          obtain ⟨q1, q2⟩ := HKP.out l3 hl3
          exact ⟨rfl, l3, Thought.first HG0.out (Thought.trans hq2 hr2 ht3), q1, q2⟩
        · have hf1 := hfin right (by omega)
          have hr0' : ¬ (right : Int) = 0 := by omega
          have hr0'' : (0 : Int) < (right : Int) := by omega
          clear hfin h0 hk hBl hr0
          go_wp2_with (first | (go_at_call 25; (with_reducible refine hf1.mono ?_); rintro e w3 ⟨rfl, l3, ht3, hl3⟩))
          go_end0
          obtain ⟨q1, q2⟩ := HKP.out l3 hl3
          exact ⟨rfl, l3, Thought.first HG0.out (Thought.trans hq2 hr2 ht3), q1, q2⟩
      · obtain rfl : right = 0 := by omega
        rw [Nat.max_zero] at HKP
        have hf1 := hfin left (by omega)
        have hl0' : ¬ (left : Int) = 0 := by omega
        have hr0'' : (0 : Int) < (left : Int) := by omega
        clear hfin h0 hk hBl hl0
        go_wp2_with (first | (go_at_call 25; (with_reducible refine hf1.mono ?_); rintro e w3 ⟨rfl, l3, ht3, hl3⟩))
        go_end0
        obtain ⟨q1, q2⟩ := HKP.out l3 hl3
        exact ⟨rfl, l3, Thought.first HG0.out (Thought.trans hq2 hr2 ht3), q1, q2⟩
    · have hl0 : left ≠ 0 := by omega
      have hr0 : right ≠ 0 := by omega
      have hl0' : ¬ (left : Int) = 0 := by omega
      have hr0' : ¬ (right : Int) = 0 := by omega
      have hne2 := hne hl0
      have hb1 : ((left : Int) != 0) = true := by simpa using hl0
      have hb2 : ((right : Int) != 0) = true := by simpa using hr0
      by_cases hr : rkN right < rkN left
      · have hr' : ((rkN right : Nat) : Int) < (rkN left : Nat) := by omega
        have hlead := tlead_any ht2 lk left (hBl.stand hk).1 (hBl.stand hk).2 (by omega)
        have HNX := Lib.hid (fun (l3 : List (Nat × Nat)) (hl : Led ws l2 lk left l3) => (show _ from (HS.out.elim fun k hk0 => join_left HU.out hk0 hl0 (by omega) hl.off hl.at_)))
        have HKP := Lib.hid (fun (l3 : List (Nat × Nat)) (hl : Led ws l2 lk left l3) => HK.out.trans (Kept.put hk hl.off))
        obtain ⟨n8, e8⟩ : ∃ q, left + 16 = q := ⟨_, rfl⟩
        have e9 : IntKind.u64.wrap ((left : Int) + 16) = (n8 : Nat) := by rw [IntKind.wrap_u64]; omega
        have hn8 : n8 < 18446744073709551616 := by omega
        rw [e8] at HNX
        have HRP := Lib.hid (rank_pos hl0 (by omega))
        clear hk hBl hl0 hr0 e8 hr hne hlF hrF h0 hl64 hr64 hne2
        go_wp2_with (first | (go_at_call 46; (with_reducible refine (hmix _ _).mono ?_); rintro e w3 ⟨rfl, rfl⟩) | (go_at_call 25; (with_reducible refine hlead.mono ?_); rintro e w6 ⟨rfl, l3, ⟨R3, ht3, hq3, hr3⟩, hl3⟩; have c6 := cell_of_one (hq3.heap X1 (ht2.far X1 (by decide) (by decide))); have hld := txload_any ht3 n8 hn8; obtain ⟨y, hy⟩ : ∃ y, txSee ws l3 n8 = y := ⟨_, rfl⟩; rw [hy] at hld; have HY := Lib.hid hy; clear hy) | (go_at_call 24; (with_reducible refine hld.mono ?_); rintro e w7 ⟨rfl, hg7⟩))
        go_roundw
        case rel => exact ⟨n8, y, right, l3, by go_num, by go_num, by go_num, HY.out ▸ (HNX.out l3 hl3).1, HKP.out l3 hl3, Thought.trans hq2 hr2 (Thought.later ⟨R3, ht3, hq3, hr3⟩ hg7)⟩
        case measure =>
          have := rank_son (HY.out ▸ (HNX.out l3 hl3).2) HRP.out
          simp only [intOf, Int.toNat_natCast]
          omega
      · have hr' : ¬ ((rkN right : Nat) : Int) < (rkN left : Nat) := by omega
        have hlead := tlead_any ht2 lk right (hBl.stand hk).1 (hBl.stand hk).2 (by omega)
        have HNX := Lib.hid (fun (l3 : List (Nat × Nat)) (hl : Led ws l2 lk right l3) => (show _ from (HS.out.elim fun k hk0 => join_right HU.out hk0 hr0 (by omega) hl.off hl.at_)))
        have HKP := Lib.hid (fun (l3 : List (Nat × Nat)) (hl : Led ws l2 lk right l3) => HK.out.trans (Kept.put hk hl.off))
        obtain ⟨n8, e8⟩ : ∃ q, right + 8 = q := ⟨_, rfl⟩
        have e9 : IntKind.u64.wrap ((right : Int) + 8) = (n8 : Nat) := by rw [IntKind.wrap_u64]; omega
        have hn8 : n8 < 18446744073709551616 := by omega
        rw [e8] at HNX
        have HRP := Lib.hid (rank_pos hr0 (by omega))
        clear hk hBl hl0 hr0 e8 hr hne hlF hrF h0 hl64 hr64 hne2
        go_wp2_with (first | (go_at_call 46; (with_reducible refine (hmix _ _).mono ?_); rintro e w3 ⟨rfl, rfl⟩) | (go_at_call 25; (with_reducible refine hlead.mono ?_); rintro e w6 ⟨rfl, l3, ⟨R3, ht3, hq3, hr3⟩, hl3⟩; have c6 := cell_of_one (hq3.heap X1 (ht2.far X1 (by decide) (by decide))); have hld := txload_any ht3 n8 hn8; obtain ⟨y, hy⟩ : ∃ y, txSee ws l3 n8 = y := ⟨_, rfl⟩; rw [hy] at hld; have HY := Lib.hid hy; clear hy) | (go_at_call 24; (with_reducible refine hld.mono ?_); rintro e w7 ⟨rfl, hg7⟩))
        go_roundw
        case rel => exact ⟨n8, left, y, l3, by go_num, by go_num, by go_num, HY.out ▸ (HNX.out l3 hl3).1, HKP.out l3 hl3, Thought.trans hq2 hr2 (Thought.later ⟨R3, ht3, hq3, hr3⟩ hg7)⟩
        case measure =>
          have := rank_son (HY.out ▸ (HNX.out l3 hl3).2) HRP.out
          simp only [intOf, Int.toNat_natCast]
          omega
end
end Go.Proofs.YthhboidjibdahaaGreat
