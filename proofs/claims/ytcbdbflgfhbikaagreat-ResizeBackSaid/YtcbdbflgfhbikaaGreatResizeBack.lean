/-
  Fewer bytes stand at the same place; a block that stays needs no more than it has. The statement ResizeBack; no condition.
-/
import Derived.Test.YtcbdbflgfhbikaaGreatLRse
import Derived.Test.YtcbdbflgfhbikaaGreatResR
import Derived.BigQuiet
import Derived.Deep.RegionHeld3
namespace Go.Proofs.YtcbdbflgfhbikaaGreat.resizeBack
open Go.ChangeShapes Go.WideShapes Go.ChangeAt Go.RowKit
set_option linter.unusedVariables false
set_option linter.unusedSimpArgs false
set_option maxRecDepth 100000

set_option maxHeartbeats 8000000 in
theorem core {w : World} {la : Option Addr} {n c : Nat} {X O A N : Nat → Nat} (hp : DoneAt w la n X O A N) (hn : n ≤ maxLen) {a m : Nat} (ha : a < 256) (hm : m < 256) :
    Calls Tryz.prog 5 #[.slice la n c, .int .u8 a, .int .u8 m] w fun e w' => e = .returned (.bool true) ∧ w.grownBy w' none := by
  obtain ⟨E, bs, L, hE, hpl⟩ := plays12 (c := c) hp hn
  have wa : IntKind.i64.wrap (a : Int) = (a : Nat) := by rw [IntKind.wrap_i64]; omega
  have wm : IntKind.u64.wrap (m : Int) = (m : Nat) := by rw [IntKind.wrap_u64]; omega
  have hpay := fun (V W : World) (T : Nat) (R R' : Option Nat) (v : Value) (h : HW V W T R (fmt48 4480) E bs L) (hv : HvK W R' V.heap.size v E bs L) => rpayload10_any hv.is (by have := hw_few600 h; omega) (hw_bounds h) a (by omega)
  by_cases hu : usedB bs = []
  · obtain ⟨hp0, hf⟩ := pay_none a hu
    rw [hp0] at hpay
    have hpay : ∀ (V W : World) (T : Nat) (R R' : Option Nat) (v : Value), HW V W T R (fmt48 4480) E bs L → HvK W R' V.heap.size v E bs L → Calls Tryz.prog 13 #[v, .int .i64 a] W fun e w' => e = .returned (.int .u64 0) ∧ W.grownBy w' none := hpay
    have hfd : ∀ (V W : World) (T : Nat) (R : Option Nat), HW V W T R (fmt48 4480) E bs L → Calls Tryz.prog 14 #[.pointer (some ⟨T, 0, none⟩), .int .u64 0] W fun e w' => e = .returned (.tuple #[.agg #[.int .u64 0, .int .u64 0, .bool false, .int .i64 0, .int .u64 0], .bool false]) ∧ W.grownBy w' none := fun V W T R h => hw_find_none h hf
    clear hE hu hp0 hf
    go_enter Tryz.func5, Tryz.ntmps5
    go_wp2_with (first
      | (go_at_call 8; ((with_reducible refine (awake12 _).mono ?_); rintro e w1 ⟨rfl, hg1⟩))
      | (go_at_call 9; ((with_reducible refine (hpl _ hg1).mono ?_); rintro e w2 ⟨T, R, l1, n1, c1, va, ln, vc, rfl, H2, V2, hn1⟩; replace hn1 := Lib.hid hn1; have ga2 := World.grownBy_alloc w2 (.cells (hC E l1 n1 c1 va ln vc) 30) none; have HB2 := Lib.hid (heap_alloc_new' w2 (.cells (hC E l1 n1 c1 va ln vc) 30)); have H3 := H2.later ga2; have V3 := V2.later ga2; obtain ⟨⟨d0, d1, d2, d3, d4, d5, d6, d7, d8, d9⟩, _⟩ := ten_cells HB2.out; have hpay1 := hpay _ _ _ _ _ _ H3 V3))
      | (go_at_call 13; ((with_reducible refine hpay1.mono ?_); rintro e4 w4 ⟨rfl, hg4⟩; have hfd1 := hfd _ _ _ _ (H3.later hg4)))
      | (go_at_call 14; ((with_reducible refine hfd1.mono ?_); rintro e5 w5 ⟨rfl, hg5⟩)))
    go_ret
    exact ⟨rfl, grown_trans hg1 (grown_trans H3.since (grown_trans hg4 (grown_trans hg5 (World.grownBy_alloc _ _ _))))⟩
  · obtain ⟨p, hp'⟩ : ∃ p, payB bs a = p := ⟨_, rfl⟩
    rw [hp'] at hpay
    cases hf : fstN (pF p) bs with
    | none =>
      have hno : ∀ (V W : World) (T : Nat) (R : Option Nat), HW V W T R (fmt48 4480) E bs L → False := fun V W T R h => hw_there h hu (by rw [hp']; exact hf)
      clear hE hu hp' hf
      go_enter Tryz.func5, Tryz.ntmps5
      go_wp2_with (first
        | (go_at_call 8; ((with_reducible refine (awake12 _).mono ?_); rintro e w1 ⟨rfl, hg1⟩))
        | (go_at_call 9; ((with_reducible refine (hpl _ hg1).mono ?_); rintro e w2 ⟨T, R, l1, n1, c1, va, ln, vc, rfl, H2, V2, hn1⟩; replace hn1 := Lib.hid hn1; have ga2 := World.grownBy_alloc w2 (.cells (hC E l1 n1 c1 va ln vc) 30) none; have HB2 := Lib.hid (heap_alloc_new' w2 (.cells (hC E l1 n1 c1 va ln vc) 30)); have H3 := H2.later ga2; have V3 := V2.later ga2; obtain ⟨⟨d0, d1, d2, d3, d4, d5, d6, d7, d8, d9⟩, _⟩ := ten_cells HB2.out; exact (hno _ _ _ _ H3).elim)))
    | some i =>
      obtain ⟨hi, hbu, hbp⟩ := pF_some hf
      have hp64 : p < 18446744073709551616 := by omega
      have hfa := fun (V W : World) (T : Nat) (R : Option Nat) (h : HW V W T R (fmt48 4480) E bs L) => hw_find_some h hf
      obtain ⟨b, hb⟩ : ∃ b, bs.getD i default = b := ⟨_, rfl⟩
      rw [hb] at hbu hbp
      simp only [hb] at hfa
      obtain ⟨bo, bz, bu, ow, bn⟩ := b
      replace hbu : bu = true := hbu
      subst hbu
      obtain ⟨ls, hls⟩ : ∃ ls, m % (bn + 1) = ls := ⟨_, rfl⟩
      have tm : (m : Int).tmod ((bn : Int) + 1) = (ls : Nat) := by
        rw [Int.tmod_eq_emod_of_nonneg (by omega), ← hls]
        rfl
      have hlb : ls ≤ bn := by have := Nat.mod_lt m (show 0 < bn + 1 by omega); omega
      have hst : ∀ (V W : World) (T : Nat) (R : Option Nat), HW V W T R (fmt48 4480) E bs L → (rzE bs p ls = 0 ∧ rzP bs p ls = p ∧ fstN (pF p) (rzB bs p ls) = some i ∧ ∃ s, (rzB bs p ls).getD i default = ⟨bo, s, true, ow, ls⟩ ∧ needOf ls ≤ s ∧ s < needOf ls + 48 ∧ s ≤ bz) ∧ bn + 40 ≤ bz ∧ bz ≤ 4800 := fun V W T R h => by
        obtain ⟨_, _, _, _, _, _, hs⟩ := h
        have h1 := rz_stay (n := ls) hs hf (by rw [hb]; exact hlb)
        rw [hb] at h1
        have h2 := hs.told.is _ (getB_mem hi)
        rw [hb] at h2
        have h3 := h2.len
        rw [if_pos rfl] at h3
        have h4 := h2.hi
        have h5 := hs.low
        exact ⟨h1, h3.2, by simp only at h4; omega⟩
      have hrz := fun (V W : World) (T : Nat) (R : Option Nat) (f : Nat → Nat) (hl : ls < 18446744073709551616) (h : HF V W T R (fmt48 4480) E bs L f) => rz_hf h p ls hp64 hl
      have hfb := fun (V W : World) (T : Nat) (R : Option Nat) (hf2 : fstN (pF p) (rzB bs p ls) = some i) (h : HW V W T R (fmt48 4480) E (rzB bs p ls) (rzL bs L p ls)) => hw_find_some h hf2
      simp only [Blk.val] at hfa
      have en : ((ls : Int) == (ls : Int)) = true := by simp
      have ep : ((p : Int) == (p : Int)) = true := by simp
      obtain ⟨bs1, hbs1⟩ : ∃ x, rzB bs p ls = x := ⟨_, rfl⟩
      obtain ⟨L1, hL1⟩ : ∃ x, rzL bs L p ls = x := ⟨_, rfl⟩
      obtain ⟨e1, he1⟩ : ∃ x, rzE bs p ls = x := ⟨_, rfl⟩
      obtain ⟨p1, hp1⟩ : ∃ x, rzP bs p ls = x := ⟨_, rfl⟩
      simp only [hbs1, hL1, he1, hp1] at hst hrz hfb
      clear hu hp' hf hi hbp hb hE hbs1 hL1 he1 hp1 hls
      go_enter Tryz.func5, Tryz.ntmps5
      go_wp2_with (first
        | (go_at_call 8; ((with_reducible refine (awake12 _).mono ?_); rintro e w1 ⟨rfl, hg1⟩))
        | (go_at_call 9; ((with_reducible refine (hpl _ hg1).mono ?_); rintro e w2 ⟨T, R, l1, n1, c1, va, ln, vc, rfl, H2, V2, hn1⟩; replace hn1 := Lib.hid hn1; have ga2 := World.grownBy_alloc w2 (.cells (hC E l1 n1 c1 va ln vc) 30) none; have HB2 := Lib.hid (heap_alloc_new' w2 (.cells (hC E l1 n1 c1 va ln vc) 30)); have H3 := H2.later ga2; have V3 := V2.later ga2; obtain ⟨⟨d0, d1, d2, d3, d4, d5, d6, d7, d8, d9⟩, _⟩ := ten_cells HB2.out; have hpay1 := hpay _ _ _ _ _ _ H3 V3; obtain ⟨⟨rfl, rfl, hf2, s, hs1, hs2, hs3, hs4⟩, hbn, hbz⟩ := hst _ _ _ _ H3; have wb : IntKind.u64.wrap ((bn : Int) + 1) = (bn : Int) + 1 := (by rw [IntKind.wrap_u64]; omega); have nb : ¬ (bn : Int) + 1 = 0 := (by omega); have hnf := rneed_fits ls (by omega); obtain ⟨nd, hnd⟩ : ∃ nd, needOf ls = nd := ⟨_, rfl⟩; rw [hnd] at hnf hs2 hs3; have w48 : IntKind.u64.wrap ((nd : Int) + 48) = (nd : Int) + 48 := (by rw [IntKind.wrap_u64]; omega); have q1 : (nd : Int) ≤ (s : Int) := (by omega); have q2 : (s : Int) < (nd : Int) + 48 := (by omega)))
        | (go_at_call 13; ((with_reducible refine hpay1.mono ?_); rintro e4 w4 ⟨rfl, hg4⟩; have H4 := H3.later hg4; have hfa1 := hfa _ _ _ _ H4))
        | (go_at_call 14; ((with_reducible refine hfa1.mono ?_); rintro e5 w5 ⟨rfl, hg5⟩; have ga5 := World.grownBy_alloc w5 (.cells #[.int .u64 bo, .int .u64 bz, .bool true, .int .i64 ow, .int .u64 bn] 45) none; have HA5 := Lib.hid (heap_alloc_new' w5 (.cells #[.int .u64 bo, .int .u64 bz, .bool true, .int .i64 ow, .int .u64 bn] 45)); obtain ⟨f5, F5⟩ := (H4.later (grown_trans hg5 ga5)).see; have hrz1 := hrz _ _ _ _ _ (by omega) F5; obtain ⟨c0, c1, c2, c3, c4⟩ := five_cells HA5.out))
        | (go_at_call 10; ((with_reducible refine hrz1.mono ?_); rintro e7 w7 ⟨rfl, R7, f7, F7, _, K7⟩; have hfb1 := hfb _ _ _ _ hf2 F7.heap; rw [hs1] at hfb1; simp only [Blk.val] at hfb1))
        | (go_at_call 14; ((with_reducible refine hfb1.mono ?_); rintro e8 w8 ⟨rfl, hg8⟩; have ga8 := World.grownBy_alloc w8 (.cells #[.int .u64 bo, .int .u64 s, .bool true, .int .i64 ow, .int .u64 ls] 45) none; have HB8 := heap_alloc_new' w8 (.cells #[.int .u64 bo, .int .u64 s, .bool true, .int .i64 ow, .int .u64 ls] 45); obtain ⟨d0, d1, d2, d3, d4⟩ := five_cells HB8; clear HB8))
        | (go_at_call 18; ((with_reducible refine (hnf _).mono ?_); rintro e9 w9 ⟨rfl, rfl⟩)))
      go_ret
      exact ⟨rfl, grown_trans hg1 (grown_trans F7.heap.since (grown_trans hg8 ga8))⟩
theorem walk {w : World} {la : Option Addr} {n c : Nat} {X O A N : Nat → Nat} (hc : n ≤ c) (hn : n ≤ maxLen) (hp : DoneAt w la n X O A N) (a : Int) (wa : (Lit.int .u8 a).wf = true) (m : Int) (wm : (Lit.int .u8 m).wf = true) :
    Calls Tryz.prog 5 #[.slice la n c, .int .u8 a, .int .u8 m] w fun e w' => e = .returned (.bool true) ∧ Below w.heap.size w w' := by
  have ba := bounds_u8 wa
  obtain ⟨a, rfl⟩ := Int.eq_ofNat_of_zero_le ba.1
  have bm := bounds_u8 wm
  obtain ⟨m, rfl⟩ := Int.eq_ofNat_of_zero_le bm.1
  exact (core hp hn (by omega) (by omega)).mono fun e w' ⟨h1, h2⟩ => ⟨h1, grown_below h2⟩
theorem laidOut : laidOutB Tryz.prog = true := by kernel_rfl
/-! ### The row's step: the guide's frame -/
theorem own : ownKnob Tryz.prog.godebug = none := by kernel_rfl
set_option maxRecDepth 100000 in
theorem lifted (os : Os) (started : os.Started) (H : Type) (enc : TypeId × Value → H) :
    ReturnsInHanded {} Tryz.checked os 5 .any (Rows.resizeBackSpec.pre6 enc Tryz.prog Tryz.f5 Rows.resizeBackRow.domain false) (Rows.resizeBackSpec.post enc Tryz.prog Tryz.f5 false true false false) := by
  refine returnsInHanded_of_change (C := Tryz.checked) own started (by kernel_rfl) Tryz.func5
    (ChangeSpec.witness6 (enc := enc) (C := Tryz.checked) false ⟨#[], #[.slice none 0 0, .int .u8 0, .int .u8 0], []⟩ 8 (by kernel_rfl) (by kernel_rfl) (by kernel_rfl) (by kernel_rfl)) ?_
  intro W base args ds gs before hval0 hW hcnd _
  have hval : ∀ (j : Nat) t v, Tryz.f5.params[j]? = some t → args[j]? = some v → Value.okWide Tryz.prog W .any base t v := hval0
  have hW' := hW
  obtain ⟨p, q, hA0, hV, rfl, hfz, hnd⟩ := hW
  have hA : DataW.TrodAll enc Tryz.prog W 0 (fun _ => true) true Tryz.f5.params.toList args.toList ds p := hA0
  rw [Tryz.params5] at hA hval
  obtain ⟨v0, vs0, d0, ds0, p0, q0, hargs, rfl, rfl, h0, r0⟩ := trodAll_cons hA
  obtain ⟨v1, vs1, d1, ds1, p1, q1, rfl, rfl, rfl, h1, r1⟩ := trodAll_cons r0
  obtain ⟨v2, vs2, d2, ds2, p2, q2, rfl, rfl, rfl, h2, r2⟩ := trodAll_cons r1
  obtain ⟨rfl, rfl, rfl⟩ := trodAll_nil r2
  obtain rfl : args = #[v0, v1, v2] := by cases args; simp_all
  obtain ⟨rfl, rfl⟩ := trodVars_none hV
  have lt0 : ∀ x ∈ p0, x.block < W.heap.size := by obtain ⟨m, hm⟩ := h0; exact DataW.trod_lt m _ _ _ hm
  obtain ⟨la0, n0, c0, X0, O0, A0, N0, rfl, hc0, hn0, hp0⟩ := open_done (hval 0 22 v0 rfl rfl) h0
  obtain ⟨a1, rfl, rfl, rfl, w1⟩ := open_int Tryz.underlying5 (hval 1 5 v1 rfl rfl) h1
  obtain ⟨a2, rfl, rfl, rfl, w2⟩ := open_int Tryz.underlying5 (hval 2 5 v2 rfl rfl) h2
  clear hA0 hval0
  refine (walk hc0 hn0 hp0 a1 w1 a2 w2).mono fun e W' ⟨he, bel⟩ => ?_
  subst he
  exact ⟨_, rfl, _, _, _, [], _, [], hW', trodAll_mk1 (shut_bool Tryz.underlying4 _), (trodAll_cons_mk (Below.trod laidOut (by kernel_rfl) (of_decide_eq_true (by kernel_rfl)) h0 bel lt0) (trodAll_cons_mk (shut_int Tryz.underlying5 w1) (trodAll_cons_mk (shut_int Tryz.underlying5 w2) trodAll_mk0))), rfl, bel.frame _, fun h => by cases h⟩

theorem over : Rows.resizeBackRow.holds Tryz.pinned (OpenSpec.ofChange Rows.resizeBackSpec) :=
  OpenClaim.holds_of_wide 5 Tryz.f5 rfl rfl rfl rfl rfl rfl rfl ⟨rfl, rfl, rfl, rfl, rfl⟩ rfl rfl rfl rfl rfl (by kernel_rfl) Tryz.func5 (by kernel_rfl)
    (of_decide_eq_true (by kernel_rfl)) (by unfold Func.isWrapper; first | (rw [if_pos (by decide +kernel)]; kernel_rfl) | (rw [if_neg (by decide +kernel)]; exact ⟨rfl, rfl⟩))
    (fun os started H enc _ => lifted os started H enc)

theorem proved : Rows.ResizeBackSaid :=
  over
#print axioms proved


end Go.Proofs.YtcbdbflgfhbikaaGreat.resizeBack
