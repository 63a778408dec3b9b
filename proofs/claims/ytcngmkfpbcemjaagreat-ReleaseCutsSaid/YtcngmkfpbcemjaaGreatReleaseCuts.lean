/-
  A block that is cut keeps its bytes, and its owner; what is cut off is free, or nothing is. The statement ReleaseCuts; no condition.
-/
import Derived.Test.YtcngmkfpbcemjaaGreatLRek
import Derived.Test.YtcngmkfpbcemjaaGreatLRej
import Derived.BigQuiet
import Derived.Laws.StructEq
import Derived.Deep.RegionHeld3
namespace Go.Proofs.YtcngmkfpbcemjaaGreat.releaseCuts
open Go.ChangeShapes Go.WideShapes Go.ChangeAt Go.RowKit
set_option linter.unusedVariables false
set_option linter.unusedSimpArgs false
set_option maxRecDepth 100000

section
variable {w0 w w1 w2 : World} {T T2 : Nat} {R R2 : Option Nat} {ws ws2 : List Nat} {E i k p : Nat} {bs : List Blk} {L L2 : Nat → List Nat}
theorem payp (h : HW w0 w T R ws E bs L) (hf : fstN (pF p) bs = some i) : p = gO bs i + 32 := by
  obtain ⟨_, _, _, _, _, _, hs⟩ := h
  exact hs.pay hf
theorem there {a : Nat} (h : HW w0 w T R ws E bs L) (hu : usedB bs ≠ []) (hf : fstN (pF (payB bs a)) bs = none) : False := by
  obtain ⟨_, _, _, _, _, _, hs⟩ := h
  obtain ⟨j, hj⟩ := pay_some hs a hu
  rw [hf] at hj
  cases hj
theorem hw_find_cut (h : HW w0 w T R ws E bs L) (hf : fstN (pF p) bs = some i) (h2 : HW w1 w2 T2 R2 ws2 E (ctB bs p k) L2) :
    Calls Tryz.prog 22 #[.pointer (some ⟨T2, 0, none⟩), .int .u64 p] w2 fun e w' => e = .returned (.tuple #[(if cutOk (bs.getD i default) k ∧ k + 48 ≤ (bs.getD i default).s then (⟨(bs.getD i default).off, k, true, (bs.getD i default).o, (bs.getD i default).n⟩ : Blk) else bs.getD i default).val, .bool true]) ∧ w2.grownBy w' none := by
  obtain ⟨_, _, _, _, _, _, hs⟩ := h
  obtain ⟨a1, a2⟩ := ct_find hs hf k
  rw [← a2]
  exact hw_find_some h2 a1
end
set_option maxHeartbeats 8000000 in
theorem core {w : World} {la : Option Addr} {n c : Nat} {X O A N : Nat → Nat} (hp : DoneAt w la n X O A N) (hn : n ≤ maxLen) {a m : Nat} (ha : a < 256) (hm : m < 256) :
    Calls Tryz.prog 7 #[.slice la n c, .int .u8 a, .int .u8 m] w fun e w' => e = .returned (.bool true) ∧ w.grownBy w' none := by
  obtain ⟨E, bs, L, hE, hu25, hpl⟩ := plays (c := c) hp hn
  have e70 : (m : Int).tmod 70 = ((m % 70 : Nat) : Int) := by rw [Int.tmod_eq_emod_of_nonneg (by omega)]; omega
  have b70 : m % 70 < 70 := Nat.mod_lt _ (by decide)
  obtain ⟨m7, em7⟩ : ∃ m7, m % 70 = m7 := ⟨_, rfl⟩
  rw [em7] at e70 b70
  have wm7 : IntKind.u64.wrap (m7 : Int) = (m7 : Nat) := by rw [IntKind.wrap_u64]; omega
  have wa : IntKind.i64.wrap (a : Int) = (a : Nat) := by rw [IntKind.wrap_i64]; omega
  have w16 : IntKind.u64.wrap (16 * (m7 : Int)) = ((16 * m7 : Nat) : Int) := by rw [IntKind.wrap_u64]; omega
  obtain ⟨k, ek⟩ : ∃ k, 16 * m7 = k := ⟨_, rfl⟩
  rw [ek] at w16
  have hk64 : k < 2000 := by omega
  have hpay := fun (V W : World) (T : Nat) (R R' : Option Nat) (v : Value) (h : HW V W T R (fmt48 4800) E bs L) (hv : HvK W R' V.heap.size v E bs L) => rpayload10_any hv.is (by have := hw_few600 h; omega) (hw_bounds h) a (by omega)
  by_cases hu : usedB bs = []
  · obtain ⟨hp0, hf⟩ := pay_none a hu
    rw [hp0] at hpay
    have hpay : ∀ (V W : World) (T : Nat) (R R' : Option Nat) (v : Value), HW V W T R (fmt48 4800) E bs L → HvK W R' V.heap.size v E bs L → Calls Tryz.prog 17 #[v, .int .i64 a] W fun e w' => e = .returned (.int .u64 0) ∧ W.grownBy w' none := hpay
    have hfd : ∀ (V W : World) (T : Nat) (R : Option Nat), HW V W T R (fmt48 4800) E bs L → Calls Tryz.prog 22 #[.pointer (some ⟨T, 0, none⟩), .int .u64 0] W fun e w' => e = .returned (.tuple #[.agg #[.int .u64 0, .int .u64 0, .bool false, .int .i64 0, .int .u64 0], .bool false]) ∧ W.grownBy w' none := fun V W T R h => hw_find_none h hf
    clear hE hu hp0 hf hu25 e70 em7 ek w16 wm7
    go_enter Tryz.func7, Tryz.ntmps7
    go_wp2_with (first
      | (go_at_call 9; ((with_reducible refine (awake11 _).mono ?_); rintro e w1 ⟨rfl, hg1⟩))
      | (go_at_call 10; ((with_reducible refine (hpl _ hg1).mono ?_); rintro e w2 ⟨T, R, l1, n1, c1, va, ln, vc, rfl, H2, V2⟩; have ga2 := World.grownBy_alloc w2 (.cells (hC E l1 n1 c1 va ln vc) 30) none; have HB2 := Lib.hid (heap_alloc_new' w2 (.cells (hC E l1 n1 c1 va ln vc) 30)); have H3 := H2.later ga2; have V3 := V2.later ga2; obtain ⟨⟨d0, d1, d2, d3, d4, d5, d6, d7, d8, d9⟩, _⟩ := ten_cells HB2.out; have hpay1 := hpay _ _ _ _ _ _ H3 V3))
      | (go_at_call 17; ((with_reducible refine hpay1.mono ?_); rintro e4 w4 ⟨rfl, hg4⟩; have hfd1 := hfd _ _ _ _ (H3.later hg4)))
      | (go_at_call 22; ((with_reducible refine hfd1.mono ?_); rintro e5 w5 ⟨rfl, hg5⟩)))
    go_ret
    exact ⟨rfl, grown_trans hg1 (grown_trans H3.since (grown_trans hg4 (grown_trans hg5 (World.grownBy_alloc _ _ _))))⟩
  · obtain ⟨p, hp'⟩ : ∃ p, payB bs a = p := ⟨_, rfl⟩
    rw [hp'] at hpay
    cases hf : fstN (pF p) bs with
    | none =>
      have hno : ∀ (V W : World) (T : Nat) (R : Option Nat), HW V W T R (fmt48 4800) E bs L → False := fun V W T R h => there h hu (by rw [hp']; exact hf)
      clear hE hu hp' hf hu25 e70 em7 ek w16 wm7
      go_enter Tryz.func7, Tryz.ntmps7
      go_wp2_with (first
        | (go_at_call 9; ((with_reducible refine (awake11 _).mono ?_); rintro e w1 ⟨rfl, hg1⟩))
        | (go_at_call 10; ((with_reducible refine (hpl _ hg1).mono ?_); rintro e w2 ⟨T, R, l1, n1, c1, va, ln, vc, rfl, H2, V2⟩; have ga2 := World.grownBy_alloc w2 (.cells (hC E l1 n1 c1 va ln vc) 30) none; have HB2 := Lib.hid (heap_alloc_new' w2 (.cells (hC E l1 n1 c1 va ln vc) 30)); have H3 := H2.later ga2; have V3 := V2.later ga2; obtain ⟨⟨d0, d1, d2, d3, d4, d5, d6, d7, d8, d9⟩, _⟩ := ten_cells HB2.out; exact (hno _ _ _ _ H3).elim)))
    | some i =>
      obtain ⟨hi, hbu, hbp⟩ := pF_some hf
      have hp64 : p < 18446744073709551616 := by omega
      have hfa := fun (V W : World) (T : Nat) (R : Option Nat) (h : HW V W T R (fmt48 4800) E bs L) => hw_find_some h hf
      have hfb := fun (V V1 W W1 : World) (T T1 : Nat) (R R1 : Option Nat) (h1 : HW V1 W1 T1 R1 (fmt48 4800) E bs L) (h : HW V W T R (fmt48 4800) E (ctB bs p k) L) => hw_find_cut h1 hf h
      have hld := fun (V W : World) (T y : Nat) (R : Option Nat) (B : List Blk) (h : HX V W T R (fmt48 4800) E B L p y) => hx_load h hp64
      have hct := fun (V W : World) (T y : Nat) (R : Option Nat) (h : HX V W T R (fmt48 4800) E bs L p y) => ct_hx h (p := p) (fun j hj => payp h.heap hj) k
      have hce : ctE bs p k = if cutOk (bs.getD i default) k then 0 else 1 := by unfold ctE; rw [hf]
      rw [hce] at hct
      obtain ⟨b, hb⟩ : ∃ b, bs.getD i default = b := ⟨_, rfl⟩
      rw [hb] at hct hbu hbp
      simp only [hb] at hfa hfb
      obtain ⟨bo, bz, bu, ow, bn⟩ := b
      replace hbu : bu = true := hbu
      subst hbu
      obtain ⟨bs1, hbs1⟩ : ∃ x, ctB bs p k = x := ⟨_, rfl⟩
      simp only [hbs1] at hct hfb
      simp only [Blk.val] at hfa
      have en : ((bn : Int) == (bn : Int)) = true := by simp
      clear hu hp' hf hu25 em7 ek hi hbp hbs1 hb hce hE
      by_cases hk : cutOk ⟨bo, bz, true, ow, bn⟩ k
      · have hks : k ≤ bz := hk.2.2
        rw [if_pos hk] at hct
        by_cases hr : k + 48 ≤ bz
        · have hfb := fun (V V1 W W1 : World) (T T1 : Nat) (R R1 : Option Nat) (h1 : HW V1 W1 T1 R1 (fmt48 4800) E bs L) (h : HW V W T R (fmt48 4800) E bs1 L) => hfb V V1 W W1 T T1 R R1 h1 h
          rw [if_pos (show cutOk ⟨bo, bz, true, ow, bn⟩ k ∧ k + 48 ≤ bz from ⟨hk, hr⟩)] at hfb
          simp only [Blk.val] at hfb
          have hks' : (k : Int) ≤ (bz : Int) := by omega
          clear hk
          go_enter Tryz.func7, Tryz.ntmps7
          go_wp2_with (first
            | (go_at_call 9; ((with_reducible refine (awake11 _).mono ?_); rintro e w1 ⟨rfl, hg1⟩))
            | (go_at_call 10; ((with_reducible refine (hpl _ hg1).mono ?_); rintro e w2 ⟨T, R, l1, n1, c1, va, ln, vc, rfl, H2, V2⟩; have ga2 := World.grownBy_alloc w2 (.cells (hC E l1 n1 c1 va ln vc) 30) none; have HB2 := Lib.hid (heap_alloc_new' w2 (.cells (hC E l1 n1 c1 va ln vc) 30)); have H3 := H2.later ga2; have V3 := V2.later ga2; obtain ⟨⟨d0, d1, d2, d3, d4, d5, d6, d7, d8, d9⟩, _⟩ := ten_cells HB2.out; have hpay1 := hpay _ _ _ _ _ _ H3 V3))
            | (go_at_call 17; ((with_reducible refine hpay1.mono ?_); rintro e4 w4 ⟨rfl, hg4⟩; have H4 := H3.later hg4; have hfa1 := hfa _ _ _ _ H4))
            | (go_at_call 22; ((with_reducible refine hfa1.mono ?_); rintro e5 w5 ⟨rfl, hg5⟩; have ga5 := World.grownBy_alloc w5 (.cells #[.int .u64 bo, .int .u64 bz, .bool true, .int .i64 ow, .int .u64 bn] 56) none; have HA5 := Lib.hid (heap_alloc_new' w5 (.cells #[.int .u64 bo, .int .u64 bz, .bool true, .int .i64 ow, .int .u64 bn] 56)); have H5 := H4.later (grown_trans hg5 ga5); obtain ⟨y, hy, X5⟩ := H5.word p; have hld1 := hld _ _ _ _ _ _ X5; obtain ⟨c0, c1, c2, c3, c4⟩ := five_cells HA5.out))
            | (go_at_call 23; ((with_reducible refine hld1.mono ?_); rintro e6 w6 ⟨rfl, hg6⟩; have X6 := X5.later hg6; have HA6 := Lib.hid ((hg6.block _ (lt_of_block HA5.out) (by simp)).trans HA5.out); have hct1 := hct _ _ _ _ _ X6; have ey : ((y : Int) == (y : Int)) = true := by simp))
            | (go_at_call 12; ((with_reducible refine hct1.mono ?_); rintro e7 w7 ⟨rfl, R7, X7, K7⟩; have HA7 := Lib.hid (K7.far HA6.out (by decide) (by decide)); have hfb1 := hfb _ _ _ _ _ _ _ _ H5 X7.heap))
            | (go_at_call 22; ((with_reducible refine hfb1.mono ?_); rintro e8 w8 ⟨rfl, hg8⟩; have ga8 := World.grownBy_alloc w8 (.cells #[.int .u64 bo, .int .u64 k, .bool true, .int .i64 ow, .int .u64 bn] 56) none; have HB8 := Lib.hid (heap_alloc_new' w8 (.cells #[.int .u64 bo, .int .u64 k, .bool true, .int .i64 ow, .int .u64 bn] 56)); have HA8 := Lib.hid (((grown_trans hg8 ga8).block _ (lt_of_block HA7.out) (by simp)).trans HA7.out); have X8 := X7.later (grown_trans hg8 ga8); have hld2 := hld _ _ _ _ _ _ X8; obtain ⟨c0, c1, c2, c3, c4⟩ := five_cells HA8.out; obtain ⟨d0, d1, d2, d3, d4⟩ := five_cells HB8.out))
            | (go_at_call 23; ((with_reducible refine hld2.mono ?_); rintro e9 w9 ⟨rfl, hg9⟩; have HA9 := (hg9.block _ (lt_of_block HA8.out) (by simp)).trans HA8.out; have HB9 := (hg9.block _ (lt_of_block HB8.out) (by simp)).trans HB8.out; obtain ⟨c0, c1, c2, c3, c4⟩ := five_cells HA9; obtain ⟨d0, d1, d2, d3, d4⟩ := five_cells HB9; clear HA9 HB9)))
          go_ret
          exact ⟨rfl, grown_trans hg1 (grown_trans X8.heap.since hg9)⟩
        · rw [if_neg (show ¬ (cutOk ⟨bo, bz, true, ow, bn⟩ k ∧ k + 48 ≤ bz) from fun h => hr h.2)] at hfb
          simp only [Blk.val] at hfb
          have hks' : (k : Int) ≤ (bz : Int) := by omega
          have hsk : IntKind.u64.wrap ((bz : Int) - (k : Int)) = ((bz - k : Nat) : Int) := by rw [IntKind.wrap_u64]; omega
          have hs48 : ((bz - k : Nat) : Int) < 48 := by omega
          clear hk
          go_enter Tryz.func7, Tryz.ntmps7
          go_wp2_with (first
            | (go_at_call 9; ((with_reducible refine (awake11 _).mono ?_); rintro e w1 ⟨rfl, hg1⟩))
            | (go_at_call 10; ((with_reducible refine (hpl _ hg1).mono ?_); rintro e w2 ⟨T, R, l1, n1, c1, va, ln, vc, rfl, H2, V2⟩; have ga2 := World.grownBy_alloc w2 (.cells (hC E l1 n1 c1 va ln vc) 30) none; have HB2 := Lib.hid (heap_alloc_new' w2 (.cells (hC E l1 n1 c1 va ln vc) 30)); have H3 := H2.later ga2; have V3 := V2.later ga2; obtain ⟨⟨d0, d1, d2, d3, d4, d5, d6, d7, d8, d9⟩, _⟩ := ten_cells HB2.out; have hpay1 := hpay _ _ _ _ _ _ H3 V3))
            | (go_at_call 17; ((with_reducible refine hpay1.mono ?_); rintro e4 w4 ⟨rfl, hg4⟩; have H4 := H3.later hg4; have hfa1 := hfa _ _ _ _ H4))
            | (go_at_call 22; ((with_reducible refine hfa1.mono ?_); rintro e5 w5 ⟨rfl, hg5⟩; have ga5 := World.grownBy_alloc w5 (.cells #[.int .u64 bo, .int .u64 bz, .bool true, .int .i64 ow, .int .u64 bn] 56) none; have HA5 := Lib.hid (heap_alloc_new' w5 (.cells #[.int .u64 bo, .int .u64 bz, .bool true, .int .i64 ow, .int .u64 bn] 56)); have H5 := H4.later (grown_trans hg5 ga5); obtain ⟨y, hy, X5⟩ := H5.word p; have hld1 := hld _ _ _ _ _ _ X5; obtain ⟨c0, c1, c2, c3, c4⟩ := five_cells HA5.out))
            | (go_at_call 23; ((with_reducible refine hld1.mono ?_); rintro e6 w6 ⟨rfl, hg6⟩; have X6 := X5.later hg6; have HA6 := Lib.hid ((hg6.block _ (lt_of_block HA5.out) (by simp)).trans HA5.out); have hct1 := hct _ _ _ _ _ X6; have ey : ((y : Int) == (y : Int)) = true := by simp))
            | (go_at_call 12; ((with_reducible refine hct1.mono ?_); rintro e7 w7 ⟨rfl, R7, X7, K7⟩; have HA7 := Lib.hid (K7.far HA6.out (by decide) (by decide)); have hfb1 := hfb _ _ _ _ _ _ _ _ H5 X7.heap))
            | (go_at_call 22; ((with_reducible refine hfb1.mono ?_); rintro e8 w8 ⟨rfl, hg8⟩; have ga8 := World.grownBy_alloc w8 (.cells #[.int .u64 bo, .int .u64 bz, .bool true, .int .i64 ow, .int .u64 bn] 56) none; have HB8 := Lib.hid (heap_alloc_new' w8 (.cells #[.int .u64 bo, .int .u64 bz, .bool true, .int .i64 ow, .int .u64 bn] 56)); have HA8 := Lib.hid (((grown_trans hg8 ga8).block _ (lt_of_block HA7.out) (by simp)).trans HA7.out); have X8 := X7.later (grown_trans hg8 ga8); have hld2 := hld _ _ _ _ _ _ X8; obtain ⟨c0, c1, c2, c3, c4⟩ := five_cells HA8.out; obtain ⟨d0, d1, d2, d3, d4⟩ := five_cells HB8.out))
            | (go_at_call 23; ((with_reducible refine hld2.mono ?_); rintro e9 w9 ⟨rfl, hg9⟩; have HA9 := (hg9.block _ (lt_of_block HA8.out) (by simp)).trans HA8.out; have HB9 := (hg9.block _ (lt_of_block HB8.out) (by simp)).trans HB8.out; obtain ⟨c0, c1, c2, c3, c4⟩ := five_cells HA9; obtain ⟨d0, d1, d2, d3, d4⟩ := five_cells HB9; clear HA9 HB9)))
          all_goals (go_ret; exact ⟨rfl, grown_trans hg1 (grown_trans X8.heap.since hg9)⟩)
      · rw [if_neg hk] at hct
        rw [if_neg (show ¬ (cutOk ⟨bo, bz, true, ow, bn⟩ k ∧ k + 48 ≤ bz) from fun h => hk h.1)] at hfb
        simp only [Blk.val] at hfb
        clear hk
        go_enter Tryz.func7, Tryz.ntmps7
        go_wp2_with (first
          | (go_at_call 9; ((with_reducible refine (awake11 _).mono ?_); rintro e w1 ⟨rfl, hg1⟩))
          | (go_at_call 10; ((with_reducible refine (hpl _ hg1).mono ?_); rintro e w2 ⟨T, R, l1, n1, c1, va, ln, vc, rfl, H2, V2⟩; have ga2 := World.grownBy_alloc w2 (.cells (hC E l1 n1 c1 va ln vc) 30) none; have HB2 := Lib.hid (heap_alloc_new' w2 (.cells (hC E l1 n1 c1 va ln vc) 30)); have H3 := H2.later ga2; have V3 := V2.later ga2; obtain ⟨⟨d0, d1, d2, d3, d4, d5, d6, d7, d8, d9⟩, _⟩ := ten_cells HB2.out; have hpay1 := hpay _ _ _ _ _ _ H3 V3))
          | (go_at_call 17; ((with_reducible refine hpay1.mono ?_); rintro e4 w4 ⟨rfl, hg4⟩; have H4 := H3.later hg4; have hfa1 := hfa _ _ _ _ H4))
          | (go_at_call 22; ((with_reducible refine hfa1.mono ?_); rintro e5 w5 ⟨rfl, hg5⟩; have ga5 := World.grownBy_alloc w5 (.cells #[.int .u64 bo, .int .u64 bz, .bool true, .int .i64 ow, .int .u64 bn] 56) none; have HA5 := Lib.hid (heap_alloc_new' w5 (.cells #[.int .u64 bo, .int .u64 bz, .bool true, .int .i64 ow, .int .u64 bn] 56)); have H5 := H4.later (grown_trans hg5 ga5); obtain ⟨y, hy, X5⟩ := H5.word p; have hld1 := hld _ _ _ _ _ _ X5; obtain ⟨c0, c1, c2, c3, c4⟩ := five_cells HA5.out))
          | (go_at_call 23; ((with_reducible refine hld1.mono ?_); rintro e6 w6 ⟨rfl, hg6⟩; have X6 := X5.later hg6; have HA6 := Lib.hid ((hg6.block _ (lt_of_block HA5.out) (by simp)).trans HA5.out); have hct1 := hct _ _ _ _ _ X6; have ey : ((y : Int) == (y : Int)) = true := by simp))
          | (go_at_call 12; ((with_reducible refine hct1.mono ?_); rintro e7 w7 ⟨rfl, R7, X7, K7⟩; have HA7 := Lib.hid (K7.far HA6.out (by decide) (by decide)); have hfb1 := hfb _ _ _ _ _ _ _ _ H5 X7.heap))
          | (go_at_call 22; ((with_reducible refine hfb1.mono ?_); rintro e8 w8 ⟨rfl, hg8⟩; have ga8 := World.grownBy_alloc w8 (.cells #[.int .u64 bo, .int .u64 bz, .bool true, .int .i64 ow, .int .u64 bn] 56) none; have HB8 := Lib.hid (heap_alloc_new' w8 (.cells #[.int .u64 bo, .int .u64 bz, .bool true, .int .i64 ow, .int .u64 bn] 56)); have HA8 := Lib.hid (((grown_trans hg8 ga8).block _ (lt_of_block HA7.out) (by simp)).trans HA7.out); have X8 := X7.later (grown_trans hg8 ga8); have hld2 := hld _ _ _ _ _ _ X8; obtain ⟨c0, c1, c2, c3, c4⟩ := five_cells HA8.out; obtain ⟨d0, d1, d2, d3, d4⟩ := five_cells HB8.out))
          | (go_at_call 23; ((with_reducible refine hld2.mono ?_); rintro e9 w9 ⟨rfl, hg9⟩; have HA9 := (hg9.block _ (lt_of_block HA8.out) (by simp)).trans HA8.out; have HB9 := (hg9.block _ (lt_of_block HB8.out) (by simp)).trans HB8.out; obtain ⟨c0, c1, c2, c3, c4⟩ := five_cells HA9; obtain ⟨d0, d1, d2, d3, d4⟩ := five_cells HB9; clear HA9 HB9)))
        go_ret
        exact ⟨rfl, grown_trans hg1 (grown_trans X8.heap.since hg9)⟩
theorem walk {w : World} {la : Option Addr} {n c : Nat} {X O A N : Nat → Nat} (hc : n ≤ c) (hn : n ≤ maxLen) (hp : DoneAt w la n X O A N) (a : Int) (wa : (Lit.int .u8 a).wf = true) (m : Int) (wm : (Lit.int .u8 m).wf = true) :
    Calls Tryz.prog 7 #[.slice la n c, .int .u8 a, .int .u8 m] w fun e w' => e = .returned (.bool true) ∧ Below w.heap.size w w' := by
  have ba := bounds_u8 wa
  obtain ⟨a, rfl⟩ := Int.eq_ofNat_of_zero_le ba.1
  have bm := bounds_u8 wm
  obtain ⟨m, rfl⟩ := Int.eq_ofNat_of_zero_le bm.1
  exact (core hp hn (by omega) (by omega)).mono fun e w' ⟨h1, h2⟩ => ⟨h1, grown_below h2⟩
theorem laidOut : laidOutB Tryz.prog = true := by kernel_rfl
/-! ### The row's step: the guide's frame -/
theorem own : ownKnob Tryz.prog.godebug = none := by kernel_rfl
set_option maxRecDepth 100000 in
theorem lifted (os : Os) (started : os.Started) (H : Type) (enc : TypeId × Value → H) :
    ReturnsInHanded {} Tryz.checked os 7 .any (Rows.releaseCutsSpec.pre6 enc Tryz.prog Tryz.f7 Rows.releaseCutsRow.domain false) (Rows.releaseCutsSpec.post enc Tryz.prog Tryz.f7 false true false false) := by
  refine returnsInHanded_of_change (C := Tryz.checked) own started (by kernel_rfl) Tryz.func7
    (ChangeSpec.witness6 (enc := enc) (C := Tryz.checked) false ⟨#[], #[.slice none 0 0, .int .u8 0, .int .u8 0], []⟩ 8 (by kernel_rfl) (by kernel_rfl) (by kernel_rfl) (by kernel_rfl)) ?_
  intro W base args ds gs before hval0 hW hcnd _
  have hval : ∀ (j : Nat) t v, Tryz.f7.params[j]? = some t → args[j]? = some v → Value.okWide Tryz.prog W .any base t v := hval0
  have hW' := hW
  obtain ⟨p, q, hA0, hV, rfl, hfz, hnd⟩ := hW
  have hA : DataW.TrodAll enc Tryz.prog W 0 (fun _ => true) true Tryz.f7.params.toList args.toList ds p := hA0
  rw [Tryz.params7] at hA hval
  obtain ⟨v0, vs0, d0, ds0, p0, q0, hargs, rfl, rfl, h0, r0⟩ := trodAll_cons hA
  obtain ⟨v1, vs1, d1, ds1, p1, q1, rfl, rfl, rfl, h1, r1⟩ := trodAll_cons r0
  obtain ⟨v2, vs2, d2, ds2, p2, q2, rfl, rfl, rfl, h2, r2⟩ := trodAll_cons r1
  obtain ⟨rfl, rfl, rfl⟩ := trodAll_nil r2
  obtain rfl : args = #[v0, v1, v2] := by cases args; simp_all
  obtain ⟨rfl, rfl⟩ := trodVars_none hV
  have lt0 : ∀ x ∈ p0, x.block < W.heap.size := by obtain ⟨m, hm⟩ := h0; exact DataW.trod_lt m _ _ _ hm
  obtain ⟨la0, n0, c0, X0, O0, A0, N0, rfl, hc0, hn0, hp0⟩ := open_done (hval 0 22 v0 rfl rfl) h0
  obtain ⟨a1, rfl, rfl, rfl, w1⟩ := open_int Tryz.underlying5 (hval 1 5 v1 rfl rfl) h1
  obtain ⟨a2, rfl, rfl, rfl, w2⟩ := open_int Tryz.underlying5 (hval 2 5 v2 rfl rfl) h2
  clear hA0 hval0
  refine (walk hc0 hn0 hp0 a1 w1 a2 w2).mono fun e W' ⟨he, bel⟩ => ?_
  subst he
  exact ⟨_, rfl, _, _, _, [], _, [], hW', trodAll_mk1 (shut_bool Tryz.underlying4 _), (trodAll_cons_mk (Below.trod laidOut (by kernel_rfl) (of_decide_eq_true (by kernel_rfl)) h0 bel lt0) (trodAll_cons_mk (shut_int Tryz.underlying5 w1) (trodAll_cons_mk (shut_int Tryz.underlying5 w2) trodAll_mk0))), rfl, bel.frame _, fun h => by cases h⟩

theorem over : Rows.releaseCutsRow.holds Tryz.pinned (OpenSpec.ofChange Rows.releaseCutsSpec) :=
  OpenClaim.holds_of_wide 7 Tryz.f7 rfl rfl rfl rfl rfl rfl rfl ⟨rfl, rfl, rfl, rfl, rfl⟩ rfl rfl rfl rfl rfl (by kernel_rfl) Tryz.func7 (by kernel_rfl)
    (of_decide_eq_true (by kernel_rfl)) (by unfold Func.isWrapper; first | (rw [if_pos (by decide +kernel)]; kernel_rfl) | (rw [if_neg (by decide +kernel)]; exact ⟨rfl, rfl⟩))
    (fun os started H enc _ => lifted os started H enc)

theorem proved : Rows.ReleaseCutsSaid :=
  over
#print axioms proved


end Go.Proofs.YtcngmkfpbcemjaaGreat.releaseCuts
