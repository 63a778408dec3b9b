/-
  What stood in a segment is gone, when it is formatted; if it can't be, all is as it was. The statement HeadAgain, for every list of pairs, and every two numbers; no condition.
-/
import Derived.Test.YtojkebnjohanaaaHeadG
import Derived.Test.YtojkebnjohanaaaSegG
import Derived.Test.YtojkebnjohanaaaPutO
import Derived.Test.YtojkebnjohanaaaPairO
import Derived.StillTailTactics
namespace Go.Proofs.Ytojkebnjohanaaa.headAgain
open Go.ChangeShapes Go.WideShapes Go.ChangeAt Go.RowKit
set_option linter.unusedVariables false
set_option linter.unusedSimpArgs false

/-- the box of the argument is as it was; the segment has these words -/
structure AgRel (wA : World) (B D : Nat) (ws : List Nat) (wr : World) : Prop where
  grown : wA.grownBy wr none
  seg : IsSeg wr B D ws
theorem AgRel.later {wA wr w' : World} {B D : Nat} {ws : List Nat} (h : AgRel wA B D ws wr) (hg : wr.grownBy w' none) : AgRel wA B D ws w' := ⟨grown_trans h.grown hg, h.seg.later hg⟩
theorem AgRel.store {wA wr w' : World} {B D : Nat} {ws ws' : List Nat} (h : AgRel wA B D ws wr) (hD : wA.heap.size ≤ D) (hg : wr.grownBy w' (some D)) (hs : IsSeg w' B D ws') : AgRel wA B D ws' w' :=
  ⟨grown_step h.grown hg (fun i hi => .inl (by injection hi with hi; omega)), hs⟩
set_option maxHeartbeats 2000000 in
theorem walk_core (n n2 : Nat) (hn : n < 18446744073709551616) (hn2 : n2 < 18446744073709551616) {la : Option Addr} {m c : Nat} {X V : Nat → Nat} (hm : m ≤ maxLen) {w : World} (hp : PutsAt w la m X V) :
    Calls Try.prog 4 #[.slice la m c, .agg #[.int .u64 n, .int .u64 n2]] w fun e w' => e = .returned (.bool true) ∧ w.grownBy w' none := by
  unfold maxLen at hm
  have hA : w.grownBy (w.alloc (.cells #[.int .u64 n, .int .u64 n2] 35)) none := World.grownBy_alloc _ _ _
  have hpA := hp.later hA
  go_enter Try.func4, Try.ntmps4
  go_wp2_with (first | (go_at_call 9; ((with_reducible refine (awake4 _).mono ?_); rintro e w1 ⟨rfl, hg1⟩)) | (go_at_call 10; ((with_reducible refine (new48 _).mono ?_); rintro e w2 ⟨rfl, hg2, hs2⟩)))
  have hAD := hg1.size
  have R0 : AgRel (w.alloc (.cells #[.int .u64 n, .int .u64 n2] 35)) (w1.heap.size + 1) w1.heap.size (fillW (List.replicate 600 0) X V 0) w2 := ⟨grown_trans hg1 hg2, hs2⟩
  have hlen : ∀ k, (fillW (List.replicate 600 0) X V k).length = 600 := fun k => by rw [fillW_len, List.length_replicate]
  obtain ⟨z, ez⟩ : ∃ z, List.replicate 600 0 = z := ⟨_, rfl⟩
  rw [ez] at R0
  simp only [ez] at hlen
  clear hs2 hg1 hg2 ez
  obtain ⟨B, hB⟩ : ∃ B, w1.heap.size + 1 = B := ⟨_, rfl⟩
  obtain ⟨D, hD⟩ : ∃ D, w1.heap.size = D := ⟨_, rfl⟩
  rw [hB, hD] at R0
  simp only [hB]
  rw [hD] at hAD
  clear hB hD
  go_loopw [7] (fun i wr => ∃ k : Nat, k ≤ min m 100 ∧ i = .int .i64 k ∧ AgRel (w.alloc (.cells #[.int .u64 n, .int .u64 n2] 35)) B D (fillW (z) X V k) wr) (fun i _ => 100 - (intOf i).toNat)
  case atStart => exact ⟨0, Nat.zero_le _, rfl, R0⟩
  case round =>
    obtain ⟨k, hk, rfl, R⟩ := hrel
    clear R0
    by_cases hlt : k < min m 100
    · have hn0 : k < m := by omega
      have h40 : k < 100 := by omega
      obtain ⟨b, off, rfl, hb, hcs⟩ := (hpA.later R.1).cells (by omega)
      obtain ⟨c1, c2⟩ := hcs k hn0
      clear hcs
      have hx := (hp.lt k).1
      have hv := (hp.lt k).2
      have hq1 : wr.grownBy wr.drew none := grown_drew (grown_refl _ _)
      have RQ := R.later hq1
      have hst := store_any RQ.2 (X k) (V k) hx hv
      go_wp2
      go_still_tail 11, (by kernel_rfl)
      go_wp2_with (go_at_call 15; (with_reducible refine hst.mono ?_); rintro e v2 ⟨rfl, hg2, hs2⟩)
      go_roundw
      case rel => exact ⟨k + 1, by omega, by go_num, RQ.store hAD hg2 hs2⟩
      case measure => simp [intOf]; omega
    · obtain rfl : k = min m 100 := by omega
      have hws := hlen (min m 100)
      obtain ⟨ws, ews⟩ : ∃ ws, fillW (z) X V (min m 100) = ws := ⟨_, rfl⟩
      rw [ews] at R hws
      clear ews hlen hp hpA
      obtain ⟨N, hN⟩ : ∃ N, min m 100 = N := ⟨_, rfl⟩
      rw [hN]
      have hN1 : ¬ N < m ∨ (N < m ∧ ¬ N < 100) := by omega
      clear hN hlt hk
      obtain ⟨b0, b1⟩ := pair_new R.1
      have hfm := fun (w : World) (hs : IsSeg w B D ws) => format_any hs n hn
      have hf1 : ∀ w, Calls Try.prog 17 #[.int .u64 n, .int .u64 4800] w _ := fun w => rfits_any n 4800 w
      have e48 : 8 * ws.length = 4800 := by omega
      by_cases hfit : fitsP n 4800
      · rw [decide_eq_true hfit] at hf1
        rw [(fmt_yes (ws := ws) (by rw [e48]; exact hfit)).1, (fmt_yes (ws := ws) (by rw [e48]; exact hfit)).2, hws] at hfm
        have hrf1 : ∀ w, Calls Try.prog 12 #[.int .u64 4800, .int .u64 n] w _ := fun w => rformat_yes 600 n (by decide) hfit w
        have hl1' : (fmtW 600 n).length = 600 := fmtW_len _ _
        obtain ⟨W1, eW1⟩ : ∃ W, fmtW 600 n = W := ⟨_, rfl⟩
        rw [eW1] at hfm hrf1 hl1'
        have hf2 : ∀ w, Calls Try.prog 17 #[.int .u64 n2, .int .u64 4800] w _ := fun w => rfits_any n2 4800 w
        have hfm2 := fun (w : World) (hs : IsSeg w B D W1) => format_any hs n2 hn2
        have e481 : 8 * W1.length = 4800 := by omega
        by_cases hfit2 : fitsP n2 4800
        · rw [decide_eq_true hfit2] at hf2
          rw [(fmt_yes (ws := W1) (by rw [e481]; exact hfit2)).1, (fmt_yes (ws := W1) (by rw [e481]; exact hfit2)).2, hl1'] at hfm2
          have hrf2 : ∀ w, Calls Try.prog 12 #[.int .u64 4800, .int .u64 n2] w _ := fun w => rformat_yes 600 n2 (by decide) hfit2 w
          have hl2' : (fmtW 600 n2).length = 600 := fmtW_len _ _
          obtain ⟨W2, eW2⟩ : ∃ W, fmtW 600 n2 = W := ⟨_, rfl⟩
          rw [eW2] at hfm2 hrf2 hl2'
          have hl1 := Lib.hid hl1'
          have hl2 := Lib.hid hl2'
          have hl3 := hl2
          have hwd := fun (w : World) (hs : IsSeg w B D W2) => words4_any hs (by omega)
          have hnu := fun (w : World) (b b' : Nat) (p q : Value) (hp : OwnW w b p W2) (hq : OwnW w b' q W2) => nums_same hp hq (by omega)
          clear eW1 eW2 hl1' hl2' e48 e481 hws
          rcases hN1 with hN1 | ⟨hN1, hN2⟩
          · go_wp2_with (first | (go_at_call 16; ((with_reducible refine (copy_yes R.2).mono ?_); rintro e w6 ⟨rfl, hg6, hs6⟩; have R6 := R.later hg6; obtain ⟨p0, p1⟩ := pair_new R6.1; have hs6' := hs6)) | (go_at_call 11; ((with_reducible refine (hfm _ R6.2).mono ?_); rintro e w7 ⟨rfl, hg7, hs7⟩; have R7 := R6.store hAD hg7 hs7; obtain ⟨q0, q1⟩ := pair_new R7.1; have hs76 := hs6.kept hg7 (by have := R.2.ltD; simp; omega) (by have := R.2.ltD; simp; omega))) | (go_at_call 17; ((with_reducible refine (hf1 _).mono ?_); rintro e w8 ⟨rfl, rfl⟩)) | (go_at_call 12; ((with_reducible refine (hrf1 _).mono ?_); rintro e w8 ⟨v8, rfl, hg8, ho8⟩; have R8 := R7.later hg8; obtain ⟨r0, r1⟩ := pair_new R8.1; obtain ⟨a8, c8, hv8⟩ := ho8.slice; rw [hl1.out] at hv8; subst hv8)) | (go_at_call 11; ((with_reducible refine (hfm2 _ R8.2).mono ?_); rintro e w9 ⟨rfl, hg9, hs9⟩; have R9 := R8.store hAD hg9 hs9; obtain ⟨s0, s1⟩ := pair_new R9.1; have ho9 := OwnW.past_seg R8.2 hg9 ho8)) | (go_at_call 12; ((with_reducible refine (hrf2 _).mono ?_); rintro e w10 ⟨v10, rfl, hg10, ho10⟩; have R10 := R9.later hg10; obtain ⟨t0, t1⟩ := pair_new R10.1; have ho910 := ho9.later hg10; obtain ⟨a10, c10, hv10⟩ := ho10.slice; rw [hl2.out] at hv10; subst hv10)) | (go_at_call 17; ((with_reducible refine (hf2 _).mono ?_); rintro e w11 ⟨rfl, rfl⟩)) | (go_at_call 14; ((with_reducible refine (hwd _ R10.2).mono ?_); rintro e w12 ⟨v12, rfl, ho12, hg12⟩; have R12 := R10.later hg12; obtain ⟨a12, c12, hv12⟩ := ho12.slice; rw [hl3.out] at hv12; subst hv12; have hoA := ho910.later hg12; have hoB := ho10.later hg12)) | (go_at_call 13; ((with_reducible refine (hnu _ _ _ _ _ ho12 hoB).mono ?_); rintro e w13 ⟨rfl, hg13⟩)))
            go_ret
            exact ⟨ret_bool' (by simp), grown_trans hA (R12.later hg13|>.1)⟩
          · go_wp2_with (first | (go_at_call 16; ((with_reducible refine (copy_yes R.2).mono ?_); rintro e w6 ⟨rfl, hg6, hs6⟩; have R6 := R.later hg6; obtain ⟨p0, p1⟩ := pair_new R6.1; have hs6' := hs6)) | (go_at_call 11; ((with_reducible refine (hfm _ R6.2).mono ?_); rintro e w7 ⟨rfl, hg7, hs7⟩; have R7 := R6.store hAD hg7 hs7; obtain ⟨q0, q1⟩ := pair_new R7.1; have hs76 := hs6.kept hg7 (by have := R.2.ltD; simp; omega) (by have := R.2.ltD; simp; omega))) | (go_at_call 17; ((with_reducible refine (hf1 _).mono ?_); rintro e w8 ⟨rfl, rfl⟩)) | (go_at_call 12; ((with_reducible refine (hrf1 _).mono ?_); rintro e w8 ⟨v8, rfl, hg8, ho8⟩; have R8 := R7.later hg8; obtain ⟨r0, r1⟩ := pair_new R8.1; obtain ⟨a8, c8, hv8⟩ := ho8.slice; rw [hl1.out] at hv8; subst hv8)) | (go_at_call 11; ((with_reducible refine (hfm2 _ R8.2).mono ?_); rintro e w9 ⟨rfl, hg9, hs9⟩; have R9 := R8.store hAD hg9 hs9; obtain ⟨s0, s1⟩ := pair_new R9.1; have ho9 := OwnW.past_seg R8.2 hg9 ho8)) | (go_at_call 12; ((with_reducible refine (hrf2 _).mono ?_); rintro e w10 ⟨v10, rfl, hg10, ho10⟩; have R10 := R9.later hg10; obtain ⟨t0, t1⟩ := pair_new R10.1; have ho910 := ho9.later hg10; obtain ⟨a10, c10, hv10⟩ := ho10.slice; rw [hl2.out] at hv10; subst hv10)) | (go_at_call 17; ((with_reducible refine (hf2 _).mono ?_); rintro e w11 ⟨rfl, rfl⟩)) | (go_at_call 14; ((with_reducible refine (hwd _ R10.2).mono ?_); rintro e w12 ⟨v12, rfl, ho12, hg12⟩; have R12 := R10.later hg12; obtain ⟨a12, c12, hv12⟩ := ho12.slice; rw [hl3.out] at hv12; subst hv12; have hoA := ho910.later hg12; have hoB := ho10.later hg12)) | (go_at_call 13; ((with_reducible refine (hnu _ _ _ _ _ ho12 hoB).mono ?_); rintro e w13 ⟨rfl, hg13⟩)))
            go_ret
            exact ⟨ret_bool' (by simp), grown_trans hA (R12.later hg13|>.1)⟩
        · rw [decide_eq_false hfit2] at hf2
          rw [(fmt_no (ws := W1) (by rw [e481]; exact hfit2)).1, (fmt_no (ws := W1) (by rw [e481]; exact hfit2)).2] at hfm2
          have hrf2 : ∀ w, Calls Try.prog 12 #[.int .u64 4800, .int .u64 n2] w _ := fun w => rformat_no 600 n2 (by decide) (by decide) hfit2 w
          have hl2' : (List.replicate 600 0).length = 600 := List.length_replicate
          obtain ⟨W2, eW2⟩ : ∃ W, List.replicate 600 0 = W := ⟨_, rfl⟩
          rw [eW2] at hrf2 hl2'
          have hl1 := Lib.hid hl1'
          have hl2 := Lib.hid hl2'
          have hl3 := hl1
          have hwd := fun (w : World) (hs : IsSeg w B D W1) => words4_any hs (by omega)
          have hnu := fun (w : World) (b b' : Nat) (p q : Value) (hp : OwnW w b p W1) (hq : OwnW w b' q W1) => nums_same hp hq (by omega)
          clear eW1 eW2 hl1' hl2' e48 e481 hws
          rcases hN1 with hN1 | ⟨hN1, hN2⟩
          · go_wp2_with (first | (go_at_call 16; ((with_reducible refine (copy_yes R.2).mono ?_); rintro e w6 ⟨rfl, hg6, hs6⟩; have R6 := R.later hg6; obtain ⟨p0, p1⟩ := pair_new R6.1; have hs6' := hs6)) | (go_at_call 11; ((with_reducible refine (hfm _ R6.2).mono ?_); rintro e w7 ⟨rfl, hg7, hs7⟩; have R7 := R6.store hAD hg7 hs7; obtain ⟨q0, q1⟩ := pair_new R7.1; have hs76 := hs6.kept hg7 (by have := R.2.ltD; simp; omega) (by have := R.2.ltD; simp; omega))) | (go_at_call 17; ((with_reducible refine (hf1 _).mono ?_); rintro e w8 ⟨rfl, rfl⟩)) | (go_at_call 12; ((with_reducible refine (hrf1 _).mono ?_); rintro e w8 ⟨v8, rfl, hg8, ho8⟩; have R8 := R7.later hg8; obtain ⟨r0, r1⟩ := pair_new R8.1; obtain ⟨a8, c8, hv8⟩ := ho8.slice; rw [hl1.out] at hv8; subst hv8)) | (go_at_call 11; ((with_reducible refine (hfm2 _ R8.2).mono ?_); rintro e w9 ⟨rfl, hg9, hs9⟩; have R9 := R8.store hAD hg9 hs9; obtain ⟨s0, s1⟩ := pair_new R9.1; have ho9 := OwnW.past_seg R8.2 hg9 ho8)) | (go_at_call 12; ((with_reducible refine (hrf2 _).mono ?_); rintro e w10 ⟨v10, rfl, hg10, ho10⟩; have R10 := R9.later hg10; obtain ⟨t0, t1⟩ := pair_new R10.1; have ho910 := ho9.later hg10; obtain ⟨a10, c10, hv10⟩ := ho10.slice; rw [hl2.out] at hv10; subst hv10)) | (go_at_call 17; ((with_reducible refine (hf2 _).mono ?_); rintro e w11 ⟨rfl, rfl⟩)) | (go_at_call 14; ((with_reducible refine (hwd _ R10.2).mono ?_); rintro e w12 ⟨v12, rfl, ho12, hg12⟩; have R12 := R10.later hg12; obtain ⟨a12, c12, hv12⟩ := ho12.slice; rw [hl3.out] at hv12; subst hv12; have hoA := ho910.later hg12; have hoB := ho10.later hg12)) | (go_at_call 13; ((with_reducible refine (hnu _ _ _ _ _ ho12 hoA).mono ?_); rintro e w13 ⟨rfl, hg13⟩)))
            go_ret
            exact ⟨ret_bool' (by simp), grown_trans hA (R12.later hg13|>.1)⟩
          · go_wp2_with (first | (go_at_call 16; ((with_reducible refine (copy_yes R.2).mono ?_); rintro e w6 ⟨rfl, hg6, hs6⟩; have R6 := R.later hg6; obtain ⟨p0, p1⟩ := pair_new R6.1; have hs6' := hs6)) | (go_at_call 11; ((with_reducible refine (hfm _ R6.2).mono ?_); rintro e w7 ⟨rfl, hg7, hs7⟩; have R7 := R6.store hAD hg7 hs7; obtain ⟨q0, q1⟩ := pair_new R7.1; have hs76 := hs6.kept hg7 (by have := R.2.ltD; simp; omega) (by have := R.2.ltD; simp; omega))) | (go_at_call 17; ((with_reducible refine (hf1 _).mono ?_); rintro e w8 ⟨rfl, rfl⟩)) | (go_at_call 12; ((with_reducible refine (hrf1 _).mono ?_); rintro e w8 ⟨v8, rfl, hg8, ho8⟩; have R8 := R7.later hg8; obtain ⟨r0, r1⟩ := pair_new R8.1; obtain ⟨a8, c8, hv8⟩ := ho8.slice; rw [hl1.out] at hv8; subst hv8)) | (go_at_call 11; ((with_reducible refine (hfm2 _ R8.2).mono ?_); rintro e w9 ⟨rfl, hg9, hs9⟩; have R9 := R8.store hAD hg9 hs9; obtain ⟨s0, s1⟩ := pair_new R9.1; have ho9 := OwnW.past_seg R8.2 hg9 ho8)) | (go_at_call 12; ((with_reducible refine (hrf2 _).mono ?_); rintro e w10 ⟨v10, rfl, hg10, ho10⟩; have R10 := R9.later hg10; obtain ⟨t0, t1⟩ := pair_new R10.1; have ho910 := ho9.later hg10; obtain ⟨a10, c10, hv10⟩ := ho10.slice; rw [hl2.out] at hv10; subst hv10)) | (go_at_call 17; ((with_reducible refine (hf2 _).mono ?_); rintro e w11 ⟨rfl, rfl⟩)) | (go_at_call 14; ((with_reducible refine (hwd _ R10.2).mono ?_); rintro e w12 ⟨v12, rfl, ho12, hg12⟩; have R12 := R10.later hg12; obtain ⟨a12, c12, hv12⟩ := ho12.slice; rw [hl3.out] at hv12; subst hv12; have hoA := ho910.later hg12; have hoB := ho10.later hg12)) | (go_at_call 13; ((with_reducible refine (hnu _ _ _ _ _ ho12 hoA).mono ?_); rintro e w13 ⟨rfl, hg13⟩)))
            go_ret
            exact ⟨ret_bool' (by simp), grown_trans hA (R12.later hg13|>.1)⟩
      · rw [decide_eq_false hfit] at hf1
        rw [(fmt_no (ws := ws) (by rw [e48]; exact hfit)).1, (fmt_no (ws := ws) (by rw [e48]; exact hfit)).2] at hfm
        clear e48 hws
        rcases hN1 with hN1 | ⟨hN1, hN2⟩
        · go_wp2_with (first | (go_at_call 16; ((with_reducible refine (copy_yes R.2).mono ?_); rintro e w6 ⟨rfl, hg6, hs6⟩; have R6 := R.later hg6; obtain ⟨p0, p1⟩ := pair_new R6.1; have hs6' := hs6)) | (go_at_call 11; ((with_reducible refine (hfm _ R6.2).mono ?_); rintro e w7 ⟨rfl, hg7, hs7⟩; have R7 := R6.store hAD hg7 hs7; obtain ⟨q0, q1⟩ := pair_new R7.1; have hs76 := hs6.kept hg7 (by have := R.2.ltD; simp; omega) (by have := R.2.ltD; simp; omega))) | (go_at_call 17; ((with_reducible refine (hf1 _).mono ?_); rintro e w8 ⟨rfl, rfl⟩)) | (go_at_call 18; ((with_reducible refine (diff_none R7.2 hs76).mono ?_); rintro e w8 ⟨a8, c8, rfl, hg8⟩)))
          go_ret
          exact ⟨ret_bool' (by simp), grown_trans hA (R7.later hg8|>.1)⟩
        · go_wp2_with (first | (go_at_call 16; ((with_reducible refine (copy_yes R.2).mono ?_); rintro e w6 ⟨rfl, hg6, hs6⟩; have R6 := R.later hg6; obtain ⟨p0, p1⟩ := pair_new R6.1; have hs6' := hs6)) | (go_at_call 11; ((with_reducible refine (hfm _ R6.2).mono ?_); rintro e w7 ⟨rfl, hg7, hs7⟩; have R7 := R6.store hAD hg7 hs7; obtain ⟨q0, q1⟩ := pair_new R7.1; have hs76 := hs6.kept hg7 (by have := R.2.ltD; simp; omega) (by have := R.2.ltD; simp; omega))) | (go_at_call 17; ((with_reducible refine (hf1 _).mono ?_); rintro e w8 ⟨rfl, rfl⟩)) | (go_at_call 18; ((with_reducible refine (diff_none R7.2 hs76).mono ?_); rintro e w8 ⟨a8, c8, rfl, hg8⟩)))
          go_ret
          exact ⟨ret_bool' (by simp), grown_trans hA (R7.later hg8|>.1)⟩
theorem walk {la : Option Addr} {m c : Nat} {X V : Nat → Nat} (hm : m ≤ maxLen) {w : World} (hp : PutsAt w la m X V) (a b : Int) (wa : (Lit.int .u64 a).wf = true) (wb : (Lit.int .u64 b).wf = true) :
    Calls Try.prog 4 #[.slice la m c, .agg #[.int .u64 a, .int .u64 b]] w fun e w' => e = .returned (.bool true) ∧ Below w.heap.size w w' := by
  have b0 := bounds_u64 wa
  have b1 := bounds_u64 wb
  obtain ⟨n, rfl⟩ := Int.eq_ofNat_of_zero_le b0.1
  obtain ⟨n2, rfl⟩ := Int.eq_ofNat_of_zero_le b1.1
  exact (walk_core n n2 (by omega) (by omega) hm hp).mono fun e w' ⟨h1, h2⟩ => ⟨h1, grown_below h2⟩

theorem laidOut : laidOutB Try.prog = true := by kernel_rfl
/-! ### The row's step: the guide's frame -/
theorem own : ownKnob Try.prog.godebug = none := by kernel_rfl
set_option maxRecDepth 100000 in
theorem lifted (os : Os) (started : os.Started) (H : Type) (enc : TypeId × Value → H) :
    ReturnsInHanded {} Try.checked os 4 .any (Rows.headAgainSpec.pre6 enc Try.prog Try.f4 Rows.headAgainRow.domain false) (Rows.headAgainSpec.post enc Try.prog Try.f4 false true false false) := by
  refine returnsInHanded_of_change (C := Try.checked) own started (by kernel_rfl) Try.func4
    (ChangeSpec.witness6 (enc := enc) (C := Try.checked) false ⟨#[], #[.slice none 0 0, .agg #[.int .u64 0, .int .u64 0]], []⟩ 8 (by kernel_rfl) (by kernel_rfl) (by kernel_rfl) (by kernel_rfl)) ?_
  intro W base args ds gs before hval0 hW hcnd _
  have hval : ∀ (j : Nat) t v, Try.f4.params[j]? = some t → args[j]? = some v → Value.okWide Try.prog W .any base t v := hval0
  have hW' := hW
  obtain ⟨p, q, hA0, hV, rfl, hfz, hnd⟩ := hW
  have hA : DataW.TrodAll enc Try.prog W 0 (fun _ => true) true Try.f4.params.toList args.toList ds p := hA0
  rw [Try.params4] at hA hval
  obtain ⟨v0, vs0, d0, ds0, p0, q0, hargs, rfl, rfl, h0, r0⟩ := trodAll_cons hA
  obtain ⟨v1, vs1, d1, ds1, p1, q1, rfl, rfl, rfl, h1, r1⟩ := trodAll_cons r0
  obtain ⟨rfl, rfl, rfl⟩ := trodAll_nil r1
  obtain rfl : args = #[v0, v1] := by cases args; simp_all
  obtain ⟨rfl, rfl⟩ := trodVars_none hV
  have lt0 : ∀ x ∈ p0, x.block < W.heap.size := by obtain ⟨m, hm⟩ := h0; exact DataW.trod_lt m _ _ _ hm
  obtain ⟨la0, n0, c0, X0, V0, rfl, hn0, hp0⟩ := open_puts (hval 0 34 v0 rfl rfl) h0
  have lt1 : ∀ x ∈ p1, x.block < W.heap.size := by obtain ⟨m, hm⟩ := h1; exact DataW.trod_lt m _ _ _ hm
  obtain ⟨x1, y1, rfl, hx1, hy1⟩ := open_pair (hval 1 35 v1 rfl rfl) h1
  clear hA0 hval0
  refine (walk hn0 hp0 x1 y1 hx1 hy1).mono fun e W' ⟨he, bel⟩ => ?_
  subst he
  exact ⟨_, rfl, _, _, _, [], _, [], hW', trodAll_mk1 (shut_bool Try.underlying4 _), (trodAll_cons_mk (Below.trod laidOut (by kernel_rfl) (of_decide_eq_true (by kernel_rfl)) h0 bel lt0) (trodAll_cons_mk (Below.trod laidOut (by kernel_rfl) (of_decide_eq_true (by kernel_rfl)) h1 bel lt1) trodAll_mk0)), rfl, bel.frame _, fun h => by cases h⟩

theorem over : Rows.headAgainRow.holds Try.pinned (OpenSpec.ofChange Rows.headAgainSpec) :=
  OpenClaim.holds_of_wide 4 Try.f4 rfl rfl rfl rfl rfl rfl rfl ⟨rfl, rfl, rfl, rfl, rfl⟩ rfl rfl rfl rfl rfl (by kernel_rfl) Try.func4 (by kernel_rfl)
    (of_decide_eq_true (by kernel_rfl)) (by unfold Func.isWrapper; first | (rw [if_pos (by decide +kernel)]; kernel_rfl) | (rw [if_neg (by decide +kernel)]; exact ⟨rfl, rfl⟩))
    (fun os started H enc _ => lifted os started H enc)

theorem proved : Rows.HeadAgainSaid :=
  over
#print axioms proved


end Go.Proofs.Ytojkebnjohanaaa.headAgain
