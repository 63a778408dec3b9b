/-
  What isn't there isn't resized; a heap doesn't grow by an odd number, nor beyond its segment; nothing is changed. The statement ResizeNone; no condition.
-/
import Derived.Test.YtcbdbflgfhbikaaGreatLRse
import Derived.Test.YtcbdbflgfhbikaaGreatResR
import Derived.BigQuiet
import Derived.Deep.RegionHeld3
namespace Go.Proofs.YtcbdbflgfhbikaaGreat.resizeNone
open Go.ChangeShapes Go.WideShapes Go.ChangeAt Go.RowKit
set_option linter.unusedVariables false
set_option linter.unusedSimpArgs false
set_option maxRecDepth 100000

set_option maxHeartbeats 8000000 in
theorem core {w : World} {la : Option Addr} {n c : Nat} {X O A N : Nat → Nat} (hp : DoneAt w la n X O A N) (hn : n ≤ maxLen) {p k : Nat} (hp64 : p < 18446744073709551616) (hk64 : k < 18446744073709551616) :
    Calls Tryz.prog 7 #[.slice la n c, .int .u64 p, .int .u64 k] w fun e w' => e = .returned (.bool true) ∧ w.grownBy w' none := by
  obtain ⟨E, bs, L, hE, hpl⟩ := plays12 (c := c) hp hn
  have hpc := fun (V W : World) (T : Nat) (R R' : Option Nat) (v : Value) (h : HW V W T R (fmt48 4480) E bs L) (hv : HvK W R' V.heap.size v E bs L) => rplace11_any hv.is (by have := hw_few600 h; omega) p
  cases hf : fstN (pF p) bs with
  | some i =>
    have ez : fstZ (pF p) bs = (i : Int) := by unfold fstZ; rw [hf]
    rw [ez] at hpc
    have h0 : (0 : Int) ≤ (i : Int) := by omega
    clear hE ez hf
    go_enter Tryz.func7, Tryz.ntmps7
    go_wp2_with (first
      | (go_at_call 8; ((with_reducible refine (awake12 _).mono ?_); rintro e w1 ⟨rfl, hg1⟩))
      | (go_at_call 9; ((with_reducible refine (hpl _ hg1).mono ?_); rintro e w2 ⟨T, R, l1, n1, c1, va, ln, vc, rfl, H2, V2, hn1⟩; replace hn1 := Lib.hid hn1; have ga2 := World.grownBy_alloc w2 (.cells (hC E l1 n1 c1 va ln vc) 30) none; have HB2 := Lib.hid (heap_alloc_new' w2 (.cells (hC E l1 n1 c1 va ln vc) 30)); have H3 := H2.later ga2; have V3 := V2.later ga2; obtain ⟨⟨d0, d1, d2, d3, d4, d5, d6, d7, d8, d9⟩, _⟩ := ten_cells HB2.out; have hpc1 := hpc _ _ _ _ _ _ H3 V3))
      | (go_at_call 23; ((with_reducible refine hpc1.mono ?_); rintro e4 w4 ⟨rfl, hg4⟩)))
    go_ret
    exact ⟨rfl, grown_trans hg1 (grown_trans H3.since hg4)⟩
  | none =>
    have ez : fstZ (pF p) bs = -1 := by unfold fstZ; rw [hf]
    rw [ez] at hpc
    obtain ⟨r, er⟩ : ∃ r, k % 16 = r := ⟨_, rfl⟩
    obtain ⟨k1, ek1⟩ : ∃ k1, 8 + k - r = k1 := ⟨_, rfl⟩
    have t16 : (k : Int).tmod 16 = (r : Nat) := by rw [Int.tmod_eq_emod_of_nonneg (by omega)]; omega
    have wk : IntKind.u64.wrap (IntKind.u64.wrap (8 + (k : Int)) - (r : Int)) = (k1 : Nat) := by rw [IntKind.wrap_u64, IntKind.wrap_u64]; omega
    have hk1 : k1 < 18446744073709551616 ∧ k1 % 16 = 8 := by omega
    have hz1 : rzE bs p k = 4 ∧ rzP bs p k = 0 ∧ rzB bs p k = bs ∧ rzL bs L p k = L := by unfold rzE rzP rzB rzL; rw [hf]; exact ⟨rfl, rfl, rfl, rfl⟩
    have hrz : ∀ (V W : World) (T : Nat) (R : Option Nat) (f : Nat → Nat), HF V W T R (fmt48 4480) E bs L f → Calls Tryz.prog 10 #[.pointer (some ⟨T, 0, none⟩), .int .u64 p, .int .u64 k] W fun e w' => e = .returned (.tuple #[.int .u64 0, .int .i64 4]) ∧ ∃ R' f', HF V w' T R' (fmt48 4480) E bs L f' ∧ Keep W R w' R' := fun V W T R f h => by
      have := rz_hf h p k hp64 hk64
      rw [hz1.1, hz1.2.1, hz1.2.2.1, hz1.2.2.2] at this
      refine this.mono ?_
      rintro e w' ⟨rfl, R', f', h1, _, K⟩
      exact ⟨rfl, R', f', h1, K⟩
    have hg1' : ∀ (V W : World) (T : Nat) (R : Option Nat) (f : Nat → Nat), HF V W T R (fmt48 4480) E bs L f → Calls Tryz.prog 20 #[.pointer (some ⟨T, 0, none⟩), .int .u64 k1] W fun e w' => e = .returned (.int .i64 1) ∧ ∃ R', HF V w' T R' (fmt48 4480) E bs L f ∧ Keep W R w' R' := fun V W T R f h => by
      have e1 : grE E k1 = 1 := by unfold grE; rw [if_pos (.inl (by omega))]
      have := gr_hf h k1 hk1.1
      rw [e1] at this
      refine this.mono ?_
      rintro e w' ⟨rfl, h1, _⟩
      exact ⟨rfl, h1 (by decide)⟩
    have hg2' : ∀ (V W : World) (T : Nat) (R : Option Nat) (f : Nat → Nat), HF V W T R (fmt48 4480) E bs L f → Calls Tryz.prog 20 #[.pointer (some ⟨T, 0, none⟩), .int .u64 336] W fun e w' => e = .returned (.int .i64 3) ∧ ∃ R', HF V w' T R' (fmt48 4480) E bs L f ∧ Keep W R w' R' := fun V W T R f h => by
      have e1 : grE E 336 = 3 := by rw [← hE]; decide
      have := gr_hf h 336 (by decide)
      rw [e1] at this
      refine this.mono ?_
      rintro e w' ⟨rfl, h1, _⟩
      exact ⟨rfl, h1 (by decide)⟩
    have hgn := gr_nil
    clear hE ez hf hz1 hk1 ek1 er
    go_enter Tryz.func7, Tryz.ntmps7
    go_wp2_with (first
      | (go_at_call 8; ((with_reducible refine (awake12 _).mono ?_); rintro e w1 ⟨rfl, hg1⟩))
      | (go_at_call 9; ((with_reducible refine (hpl _ hg1).mono ?_); rintro e w2 ⟨T, R, l1, n1, c1, va, ln, vc, rfl, H2, V2, hn1⟩; replace hn1 := Lib.hid hn1; have ga2 := World.grownBy_alloc w2 (.cells (hC E l1 n1 c1 va ln vc) 30) none; have HB2 := Lib.hid (heap_alloc_new' w2 (.cells (hC E l1 n1 c1 va ln vc) 30)); have H3 := H2.later ga2; have V3 := V2.later ga2; obtain ⟨⟨d0, d1, d2, d3, d4, d5, d6, d7, d8, d9⟩, _⟩ := ten_cells HB2.out; have hpc1 := hpc _ _ _ _ _ _ H3 V3))
      | (go_at_call 23; ((with_reducible refine hpc1.mono ?_); rintro e4 w4 ⟨rfl, hg4⟩; have B4 := (hg4.block _ (lt_of_block HB2.out) (by simp)).trans HB2.out; obtain ⟨⟨d0, d1, d2, d3, d4, d5, d6, d7, d8, d9⟩, _⟩ := ten_cells B4; have HB4 := Lib.hid B4; clear B4; obtain ⟨f4, F4⟩ := (H3.later hg4).see; have V4 := V3.later hg4; have hr1 := hrz _ _ _ _ _ F4))
      | (go_at_call 10; ((with_reducible refine hr1.mono ?_); rintro e5 w5 ⟨rfl, R5, f5, F5, K5⟩; have B5 := K5.far HB4.out (by decide) (by decide); obtain ⟨⟨d0, d1, d2, d3, d4, d5, d6, d7, d8, d9⟩, _⟩ := ten_cells B5; have HB5 := Lib.hid B5; clear B5; have V5 := V4.step K5; have hgr1 := hg1' _ _ _ _ _ F5))
      | (go_at_call 20; ((with_reducible refine hgr1.mono ?_); rintro e6 w6 ⟨rfl, R6, F6, K6⟩; have B6 := K6.far HB5.out (by decide) (by decide); obtain ⟨⟨d0, d1, d2, d3, d4, d5, d6, d7, d8, d9⟩, _⟩ := ten_cells B6; have HB6 := Lib.hid B6; clear B6; have V6 := V5.step K6; have hgr2 := hg2' _ _ _ _ _ F6))
      | (go_at_call 20; ((with_reducible refine hgr2.mono ?_); rintro e7 w7 ⟨rfl, R7, F7, K7⟩; have B7 := K7.far HB6.out (by decide) (by decide); obtain ⟨⟨d0, d1, d2, d3, d4, d5, d6, d7, d8, d9⟩, _⟩ := ten_cells B7; have HB7 := Lib.hid B7; clear B7; have V7 := V6.step K7; have hgr3 := hgn w7))
      | (go_at_call 20; ((with_reducible refine hgr3.mono ?_); rintro e9 w9 ⟨rfl, hg9⟩; have B9 := (hg9.block _ (lt_of_block HB7.out) (by simp)).trans HB7.out; obtain ⟨⟨d0, d1, d2, d3, d4, d5, d6, d7, d8, d9⟩, _⟩ := ten_cells B9; clear B9; have hso := sound12_any (F7.heap.later hg9) (V7.later hg9).is))
      | (go_at_call 12; ((with_reducible refine hso.mono ?_); rintro e8 w8 ⟨rfl, hg8⟩)))
    go_ret
    exact ⟨rfl, grown_trans hg1 (grown_trans F7.heap.since (grown_trans hg9 hg8))⟩
theorem walk {w : World} {la : Option Addr} {n c : Nat} {X O A N : Nat → Nat} (hc : n ≤ c) (hn : n ≤ maxLen) (hp : DoneAt w la n X O A N) (p : Int) (wp : (Lit.int .u64 p).wf = true) (k : Int) (wk : (Lit.int .u64 k).wf = true) :
    Calls Tryz.prog 7 #[.slice la n c, .int .u64 p, .int .u64 k] w fun e w' => e = .returned (.bool true) ∧ Below w.heap.size w w' := by
  have bp := bounds_u64 wp
  obtain ⟨p, rfl⟩ := Int.eq_ofNat_of_zero_le bp.1
  have bk := bounds_u64 wk
  obtain ⟨k, rfl⟩ := Int.eq_ofNat_of_zero_le bk.1
  exact (core hp hn (by omega) (by omega)).mono fun e w' ⟨h1, h2⟩ => ⟨h1, grown_below h2⟩
theorem laidOut : laidOutB Tryz.prog = true := by kernel_rfl
/-! ### The row's step: the guide's frame -/
theorem own : ownKnob Tryz.prog.godebug = none := by kernel_rfl
set_option maxRecDepth 100000 in
theorem lifted (os : Os) (started : os.Started) (H : Type) (enc : TypeId × Value → H) :
    ReturnsInHanded {} Tryz.checked os 7 .any (Rows.resizeNoneSpec.pre6 enc Tryz.prog Tryz.f7 Rows.resizeNoneRow.domain false) (Rows.resizeNoneSpec.post enc Tryz.prog Tryz.f7 false true false false) := by
  refine returnsInHanded_of_change (C := Tryz.checked) own started (by kernel_rfl) Tryz.func7
    (ChangeSpec.witness6 (enc := enc) (C := Tryz.checked) false ⟨#[], #[.slice none 0 0, .int .u64 0, .int .u64 0], []⟩ 8 (by kernel_rfl) (by kernel_rfl) (by kernel_rfl) (by kernel_rfl)) ?_
  intro W base args ds gs before hval0 hW hcnd _
  have hval : ∀ (j : Nat) t v, Tryz.f7.params[j]? = some t → args[j]? = some v → Value.okWide Tryz.prog W .any base t v := hval0
  have hW' := hW
  obtain ⟨p, q, hA0, hV, rfl, hfz, hnd⟩ := hW
  have hA : DataW.TrodAll enc Tryz.prog W 0 (fun _ => true) true Tryz.f7.params.toList args.toList ds p := hA0
  rw [Tryz.params7] at hA hval
  obtain ⟨v0, vs0, d0, ds0, p0, q0, hargs, rfl, rfl, h0, r0⟩ := trodAll_cons hA
  obtain ⟨v1, vs1, d1, ds1, p1, q1, rfl, rfl, rfl, h1, r1⟩ := trodAll_cons r0
  obtain ⟨v2, vs2, d2, ds2, p2, q2, rfl, rfl, rfl, h2, r2⟩ := trodAll_cons r1
  obtain ⟨rfl, rfl, rfl⟩ := trodAll_nil r2
  obtain rfl : args = #[v0, v1, v2] := by cases args; simp_all
  obtain ⟨rfl, rfl⟩ := trodVars_none hV
  have lt0 : ∀ x ∈ p0, x.block < W.heap.size := by obtain ⟨m, hm⟩ := h0; exact DataW.trod_lt m _ _ _ hm
  obtain ⟨la0, n0, c0, X0, O0, A0, N0, rfl, hc0, hn0, hp0⟩ := open_done (hval 0 22 v0 rfl rfl) h0
  obtain ⟨a1, rfl, rfl, rfl, w1⟩ := open_int Tryz.underlying23 (hval 1 23 v1 rfl rfl) h1
  obtain ⟨a2, rfl, rfl, rfl, w2⟩ := open_int Tryz.underlying23 (hval 2 23 v2 rfl rfl) h2
  clear hA0 hval0
  refine (walk hc0 hn0 hp0 a1 w1 a2 w2).mono fun e W' ⟨he, bel⟩ => ?_
  subst he
  exact ⟨_, rfl, _, _, _, [], _, [], hW', trodAll_mk1 (shut_bool Tryz.underlying4 _), (trodAll_cons_mk (Below.trod laidOut (by kernel_rfl) (of_decide_eq_true (by kernel_rfl)) h0 bel lt0) (trodAll_cons_mk (shut_int Tryz.underlying23 w1) (trodAll_cons_mk (shut_int Tryz.underlying23 w2) trodAll_mk0))), rfl, bel.frame _, fun h => by cases h⟩

theorem over : Rows.resizeNoneRow.holds Tryz.pinned (OpenSpec.ofChange Rows.resizeNoneSpec) :=
  OpenClaim.holds_of_wide 7 Tryz.f7 rfl rfl rfl rfl rfl rfl rfl ⟨rfl, rfl, rfl, rfl, rfl⟩ rfl rfl rfl rfl rfl (by kernel_rfl) Tryz.func7 (by kernel_rfl)
    (of_decide_eq_true (by kernel_rfl)) (by unfold Func.isWrapper; first | (rw [if_pos (by decide +kernel)]; kernel_rfl) | (rw [if_neg (by decide +kernel)]; exact ⟨rfl, rfl⟩))
    (fun os started H enc _ => lifted os started H enc)

theorem proved : Rows.ResizeNoneSaid :=
  over
#print axioms proved


end Go.Proofs.YtcbdbflgfhbikaaGreat.resizeNone
