/-
  Where no block is, none is freed, nor cut, and nothing is changed. The statement ReleaseNone; no condition.
-/
import Derived.Test.YtcngmkfpbcemjaaGreatLRek
import Derived.Test.YtcngmkfpbcemjaaGreatLRej
import Derived.BigQuiet
import Derived.Deep.RegionHeld3
namespace Go.Proofs.YtcngmkfpbcemjaaGreat.releaseNone
open Go.ChangeShapes Go.WideShapes Go.ChangeAt Go.RowKit
set_option linter.unusedVariables false
set_option linter.unusedSimpArgs false
set_option maxRecDepth 100000

set_option maxHeartbeats 8000000 in
theorem core {w : World} {la : Option Addr} {n c : Nat} {X O A N : Nat → Nat} (hp : DoneAt w la n X O A N) (hn : n ≤ maxLen) {p : Nat} (hp64 : p < 18446744073709551616) :
    Calls Tryz.prog 8 #[.slice la n c, .int .u64 p] w fun e w' => e = .returned (.bool true) ∧ w.grownBy w' none := by
  obtain ⟨E, bs, L, hE, hu25, hpl⟩ := plays (c := c) hp hn
  have hpc := fun (V W : World) (T : Nat) (R R' : Option Nat) (v : Value) (h : HW V W T R (fmt48 4800) E bs L) (hv : HvK W R' V.heap.size v E bs L) => rplace11_any hv.is (by have := hw_few600 h; omega) p
  cases hf : fstN (pF p) bs with
  | some i =>
    have ez : fstZ (pF p) bs = (i : Int) := by unfold fstZ; rw [hf]
    rw [ez] at hpc
    have h0 : (0 : Int) ≤ (i : Int) := by omega
    clear hE ez hf
    go_enter Tryz.func8, Tryz.ntmps8
    go_wp2_with (first
      | (go_at_call 9; ((with_reducible refine (awake11 _).mono ?_); rintro e w1 ⟨rfl, hg1⟩))
      | (go_at_call 10; ((with_reducible refine (hpl _ hg1).mono ?_); rintro e w2 ⟨T, R, l1, n1, c1, va, ln, vc, rfl, H2, V2⟩; have ga2 := World.grownBy_alloc w2 (.cells (hC E l1 n1 c1 va ln vc) 30) none; have HB2 := Lib.hid (heap_alloc_new' w2 (.cells (hC E l1 n1 c1 va ln vc) 30)); have H3 := H2.later ga2; have V3 := V2.later ga2; obtain ⟨⟨d0, d1, d2, d3, d4, d5, d6, d7, d8, d9⟩, _⟩ := ten_cells HB2.out; have hpc1 := hpc _ _ _ _ _ _ H3 V3))
      | (go_at_call 24; ((with_reducible refine hpc1.mono ?_); rintro e4 w4 ⟨rfl, hg4⟩)))
    go_ret
    exact ⟨rfl, grown_trans hg1 (grown_trans H3.since hg4)⟩
  | none =>
    have ez : fstZ (pF p) bs = -1 := by unfold fstZ; rw [hf]
    rw [ez] at hpc
    have hfb : ∀ (V W : World) (T : Nat) (R : Option Nat), HW V W T R (fmt48 4800) E bs L → Calls Tryz.prog 14 #[.pointer (some ⟨T, 0, none⟩), .int .u64 p] W fun e w' => e = .returned (.int .i64 4) ∧ W.grownBy w' none := fun V W T R h => free_bad (hw_find_none h hf)
    have hcb : ∀ (V W : World) (T : Nat) (R : Option Nat), HW V W T R (fmt48 4800) E bs L → Calls Tryz.prog 12 #[.pointer (some ⟨T, 0, none⟩), .int .u64 p, .int .u64 48] W fun e w' => e = .returned (.int .i64 4) ∧ W.grownBy w' none := fun V W T R h => cut_bad4 (hw_find_none h hf) 48
    have hfn := fun w => free_nil w p
    clear hE ez hf
    go_enter Tryz.func8, Tryz.ntmps8
    go_wp2_with (first
      | (go_at_call 9; ((with_reducible refine (awake11 _).mono ?_); rintro e w1 ⟨rfl, hg1⟩))
      | (go_at_call 10; ((with_reducible refine (hpl _ hg1).mono ?_); rintro e w2 ⟨T, R, l1, n1, c1, va, ln, vc, rfl, H2, V2⟩; have ga2 := World.grownBy_alloc w2 (.cells (hC E l1 n1 c1 va ln vc) 30) none; have HB2 := Lib.hid (heap_alloc_new' w2 (.cells (hC E l1 n1 c1 va ln vc) 30)); have H3 := H2.later ga2; have V3 := V2.later ga2; obtain ⟨⟨d0, d1, d2, d3, d4, d5, d6, d7, d8, d9⟩, _⟩ := ten_cells HB2.out; have hpc1 := hpc _ _ _ _ _ _ H3 V3))
      | (go_at_call 24; ((with_reducible refine hpc1.mono ?_); rintro e4 w4 ⟨rfl, hg4⟩; have B4 := (hg4.block _ (lt_of_block HB2.out) (by simp)).trans HB2.out; obtain ⟨⟨d0, d1, d2, d3, d4, d5, d6, d7, d8, d9⟩, _⟩ := ten_cells B4; clear B4; have hf1 := hfb _ _ _ _ (H3.later hg4)))
      | (go_at_call 14; ((with_reducible refine hf1.mono ?_); rintro e5 w5 ⟨rfl, hg5⟩; have hg45 := grown_trans hg4 hg5; have B5 := (hg45.block _ (lt_of_block HB2.out) (by simp)).trans HB2.out; obtain ⟨⟨d0, d1, d2, d3, d4, d5, d6, d7, d8, d9⟩, _⟩ := ten_cells B5; clear B5; have hc1 := hcb _ _ _ _ (H3.later hg45)))
      | (go_at_call 12; ((with_reducible refine hc1.mono ?_); rintro e6 w6 ⟨rfl, hg6⟩; have hg46 := grown_trans hg45 hg6; have B6 := (hg46.block _ (lt_of_block HB2.out) (by simp)).trans HB2.out; obtain ⟨⟨d0, d1, d2, d3, d4, d5, d6, d7, d8, d9⟩, _⟩ := ten_cells B6; clear B6; have hfn1 := hfn w6))
      | (go_at_call 14; ((with_reducible refine hfn1.mono ?_); rintro e7 w7 ⟨rfl, hg7⟩; have hg47 := grown_trans hg46 hg7; have B7 := (hg47.block _ (lt_of_block HB2.out) (by simp)).trans HB2.out; obtain ⟨⟨d0, d1, d2, d3, d4, d5, d6, d7, d8, d9⟩, _⟩ := ten_cells B7; clear B7; have hso := sound11_any (H3.later hg47) (V3.later hg47).is))
      | (go_at_call 11; ((with_reducible refine hso.mono ?_); rintro e8 w8 ⟨rfl, hg8⟩)))
    go_ret
    exact ⟨rfl, grown_trans hg1 (grown_trans H3.since (grown_trans hg4 (grown_trans hg5 (grown_trans hg6 (grown_trans hg7 hg8)))))⟩
theorem walk {w : World} {la : Option Addr} {n c : Nat} {X O A N : Nat → Nat} (hc : n ≤ c) (hn : n ≤ maxLen) (hp : DoneAt w la n X O A N) (p : Int) (wp : (Lit.int .u64 p).wf = true) :
    Calls Tryz.prog 8 #[.slice la n c, .int .u64 p] w fun e w' => e = .returned (.bool true) ∧ Below w.heap.size w w' := by
  have bp := bounds_u64 wp
  obtain ⟨p, rfl⟩ := Int.eq_ofNat_of_zero_le bp.1
  exact (core hp hn (by omega)).mono fun e w' ⟨h1, h2⟩ => ⟨h1, grown_below h2⟩
theorem laidOut : laidOutB Tryz.prog = true := by kernel_rfl
/-! ### The row's step: the guide's frame -/
theorem own : ownKnob Tryz.prog.godebug = none := by kernel_rfl
set_option maxRecDepth 100000 in
theorem lifted (os : Os) (started : os.Started) (H : Type) (enc : TypeId × Value → H) :
    ReturnsInHanded {} Tryz.checked os 8 .any (Rows.releaseNoneSpec.pre6 enc Tryz.prog Tryz.f8 Rows.releaseNoneRow.domain false) (Rows.releaseNoneSpec.post enc Tryz.prog Tryz.f8 false true false false) := by
  refine returnsInHanded_of_change (C := Tryz.checked) own started (by kernel_rfl) Tryz.func8
    (ChangeSpec.witness6 (enc := enc) (C := Tryz.checked) false ⟨#[], #[.slice none 0 0, .int .u64 0], []⟩ 8 (by kernel_rfl) (by kernel_rfl) (by kernel_rfl) (by kernel_rfl)) ?_
  intro W base args ds gs before hval0 hW hcnd _
  have hval : ∀ (j : Nat) t v, Tryz.f8.params[j]? = some t → args[j]? = some v → Value.okWide Tryz.prog W .any base t v := hval0
  have hW' := hW
  obtain ⟨p, q, hA0, hV, rfl, hfz, hnd⟩ := hW
  have hA : DataW.TrodAll enc Tryz.prog W 0 (fun _ => true) true Tryz.f8.params.toList args.toList ds p := hA0
  rw [Tryz.params8] at hA hval
  obtain ⟨v0, vs0, d0, ds0, p0, q0, hargs, rfl, rfl, h0, r0⟩ := trodAll_cons hA
  obtain ⟨v1, vs1, d1, ds1, p1, q1, rfl, rfl, rfl, h1, r1⟩ := trodAll_cons r0
  obtain ⟨rfl, rfl, rfl⟩ := trodAll_nil r1
  obtain rfl : args = #[v0, v1] := by cases args; simp_all
  obtain ⟨rfl, rfl⟩ := trodVars_none hV
  have lt0 : ∀ x ∈ p0, x.block < W.heap.size := by obtain ⟨m, hm⟩ := h0; exact DataW.trod_lt m _ _ _ hm
  obtain ⟨la0, n0, c0, X0, O0, A0, N0, rfl, hc0, hn0, hp0⟩ := open_done (hval 0 22 v0 rfl rfl) h0
  obtain ⟨a1, rfl, rfl, rfl, w1⟩ := open_int Tryz.underlying23 (hval 1 23 v1 rfl rfl) h1
  clear hA0 hval0
  refine (walk hc0 hn0 hp0 a1 w1).mono fun e W' ⟨he, bel⟩ => ?_
  subst he
  exact ⟨_, rfl, _, _, _, [], _, [], hW', trodAll_mk1 (shut_bool Tryz.underlying4 _), (trodAll_cons_mk (Below.trod laidOut (by kernel_rfl) (of_decide_eq_true (by kernel_rfl)) h0 bel lt0) (trodAll_cons_mk (shut_int Tryz.underlying23 w1) trodAll_mk0)), rfl, bel.frame _, fun h => by cases h⟩

theorem over : Rows.releaseNoneRow.holds Tryz.pinned (OpenSpec.ofChange Rows.releaseNoneSpec) :=
  OpenClaim.holds_of_wide 8 Tryz.f8 rfl rfl rfl rfl rfl rfl rfl ⟨rfl, rfl, rfl, rfl, rfl⟩ rfl rfl rfl rfl rfl (by kernel_rfl) Tryz.func8 (by kernel_rfl)
    (of_decide_eq_true (by kernel_rfl)) (by unfold Func.isWrapper; first | (rw [if_pos (by decide +kernel)]; kernel_rfl) | (rw [if_neg (by decide +kernel)]; exact ⟨rfl, rfl⟩))
    (fun os started H enc _ => lifted os started H enc)

theorem proved : Rows.ReleaseNoneSaid :=
  over
#print axioms proved


end Go.Proofs.YtcngmkfpbcemjaaGreat.releaseNone
