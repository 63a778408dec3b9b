/-
  Whatever is taken: what is told, all blocks, the tree, and the lists, are the document's. The statement CarveTakes; no condition.
-/
import Derived.Test.YtoamlkljfmgomaaGreatCarAb
import Derived.Test.YtoamlkljfmgomaaGreatAskO
import Derived.BigQuiet
import Derived.Deep.RegionHeld3
import Derived.Test.YtoamlkljfmgomaaGreatLTx
namespace Go.Proofs.YtoamlkljfmgomaaGreat.carveTakes
open Go.ChangeShapes Go.WideShapes Go.ChangeAt Go.RowKit
set_option linter.unusedVariables false
set_option linter.unusedSimpArgs false
set_option maxRecDepth 100000

set_option maxHeartbeats 8000000 in
theorem core {w : World} {la : Option Addr} {n c q1 q2 : Nat} {O A N : Nat → Nat} (hp : PiecesAt w la n O A N) (hn : n ≤ maxLen) (owner : Int) (h1 : q1 < 18446744073709551616) (h2 : q2 < 18446744073709551616) :
    Calls Tryz.prog 4 #[.slice la n c, .int .i64 owner, .agg #[.int .u64 q1, .int .u64 q2]] w fun e w' => e = .returned (.bool true) ∧ w.grownBy w' none := by
  have htk := fun (V : World) (hg : w.grownBy V none) => taken10_any (c := c) (hp.later hg) hn
  obtain ⟨bs, hbs⟩ : ∃ bs, (tkS O A N (min n 20)).1 = bs := ⟨_, rfl⟩
  obtain ⟨L, hL⟩ : ∃ L, (tkS O A N (min n 20)).2 = L := ⟨_, rfl⟩
  rw [hbs, hL] at htk
  clear hbs hL
  obtain ⟨p, e, bs', L', hcode, href⟩ := both_take bs L h1 h2 owner
  have ep : ((p : Int) == (p : Int)) = true := by simp
  have ee : ((e : Int) == (e : Int)) = true := by simp
  have hg0 := World.grownBy_alloc w (.cells #[.int .u64 q1, .int .u64 q2] 45) none
  have HPB := Lib.hid (heap_alloc_new' w (.cells #[.int .u64 q1, .int .u64 q2] 45))
  go_enter Tryz.func4, Tryz.ntmps4
  go_wp2_with (first
    | (go_at_call 9; ((with_reducible refine (awake10 _).mono ?_); rintro e w1 ⟨rfl, hg1a⟩; have hg1 := grown_trans hg0 hg1a))
    | (go_at_call 10; ((with_reducible refine (htk _ hg1).mono ?_); rintro e w2 ⟨T, R, v, rfl, H2, V2⟩; obtain ⟨l1, n1, c1, va, ln, vc, hv, hn1⟩ := V2.lie; subst hv; have ga := World.grownBy_alloc w2 (.cells #[.int .u64 4800, .slice l1 n1 c1, .slice (va 0) (ln 0) (vc 0), .slice (va 1) (ln 1) (vc 1), .slice (va 2) (ln 2) (vc 2), .slice (va 3) (ln 3) (vc 3), .slice (va 4) (ln 4) (vc 4), .slice (va 5) (ln 5) (vc 5), .slice (va 6) (ln 6) (vc 6), .slice (va 7) (ln 7) (vc 7)] 30) none; have B2 := heap_alloc_new' w2 (.cells #[.int .u64 4800, .slice l1 n1 c1, .slice (va 0) (ln 0) (vc 0), .slice (va 1) (ln 1) (vc 1), .slice (va 2) (ln 2) (vc 2), .slice (va 3) (ln 3) (vc 3), .slice (va 4) (ln 4) (vc 4), .slice (va 5) (ln 5) (vc 5), .slice (va 6) (ln 6) (vc 6), .slice (va 7) (ln 7) (vc 7)] 30); have HB2 := Lib.hid B2; clear B2; have H3 := H2.later ga; have V3 := V2.later ga; simp only [heapV, show ((4800 : Nat) : Int) = 4800 from rfl]; obtain ⟨⟨d0, d1, d2, d3, d4, d5, d6, d7, d8, d9⟩, _⟩ := ten_cells HB2.out; obtain ⟨y0, y1⟩ := two_cells (((grown_trans hg1a (grown_trans H2.since ga)).block _ (lt_of_block HPB.out) (by simp)).trans HPB.out); have hso := sound10_any H3 V3.is; simp only [heapV, show ((4800 : Nat) : Int) = 4800 from rfl] at hso))
    | (go_at_call 13; ((with_reducible refine hso.mono ?_); rintro e4 w4 ⟨rfl, hg4⟩; have H4 := H3.later hg4; have V4 := V3.later hg4; obtain ⟨⟨d0, d1, d2, d3, d4, d5, d6, d7, d8, d9⟩, _⟩ := ten_cells ((hg4.block _ (lt_of_block HB2.out) (by simp)).trans HB2.out); obtain ⟨y0, y1⟩ := two_cells (((grown_trans hg1a (grown_trans H2.since (grown_trans ga hg4))).block _ (lt_of_block HPB.out) (by simp)).trans HPB.out); have hct := hcode _ _ _ _ H4))
    | (go_at_call 14; ((with_reducible refine hct.mono ?_); rintro e5 w5 ⟨rfl, R5, H5, K5⟩; have B5 := K5.far ((hg4.block _ (lt_of_block HB2.out) (by simp)).trans HB2.out) (by decide) (by decide); obtain ⟨⟨d0, d1, d2, d3, d4, d5, d6, d7, d8, d9⟩, _⟩ := ten_cells B5; have Y5 := K5.far (((grown_trans hg1a (grown_trans H2.since (grown_trans ga hg4))).block _ (lt_of_block HPB.out) (by simp)).trans HPB.out) (by decide) (by decide); obtain ⟨y0, y1⟩ := two_cells Y5; have hrf := href _ _ _ _ w5 R5 _ _ H4 (fun g e => H5.newR e) (V4.step K5) H5.since.size; simp only [heapV, show ((4800 : Nat) : Int) = 4800 from rfl] at hrf; clear B5 Y5))
    | (go_at_call 15; ((with_reducible refine hrf.mono ?_); rintro e6 w6 ⟨v6, rfl, V6, hg6⟩; obtain ⟨l6, n6, c6, vb, lb, vd, hv6, hn6⟩ := V6.lie; subst hv6; have g7 := World.grownBy_alloc w6 (.cells #[.int .u64 4800, .slice l6 n6 c6, .slice (vb 0) (lb 0) (vd 0), .slice (vb 1) (lb 1) (vd 1), .slice (vb 2) (lb 2) (vd 2), .slice (vb 3) (lb 3) (vd 3), .slice (vb 4) (lb 4) (vd 4), .slice (vb 5) (lb 5) (vd 5), .slice (vb 6) (lb 6) (vd 6), .slice (vb 7) (lb 7) (vd 7)] 30) none; have B7 := heap_alloc_new' w6 (.cells #[.int .u64 4800, .slice l6 n6 c6, .slice (vb 0) (lb 0) (vd 0), .slice (vb 1) (lb 1) (vd 1), .slice (vb 2) (lb 2) (vd 2), .slice (vb 3) (lb 3) (vd 3), .slice (vb 4) (lb 4) (vd 4), .slice (vb 5) (lb 5) (vd 5), .slice (vb 6) (lb 6) (vd 6), .slice (vb 7) (lb 7) (vd 7)] 30); obtain ⟨⟨z0, z1, z2, z3, z4, z5, z6, z7, z8, z9⟩, _⟩ := ten_cells B7; have hs7 := sound10_any (H5.later (grown_trans hg6 g7)) (V6.later g7).is; simp only [heapV, show ((4800 : Nat) : Int) = 4800 from rfl] at hs7 ⊢; clear B7))
    | (go_at_call 13; ((with_reducible refine hs7.mono ?_); rintro e8 w8 ⟨rfl, hg8⟩)))
  go_ret
  exact ⟨rfl, grown_trans hg1 (grown_trans H5.since (grown_trans hg6 (grown_trans g7 hg8)))⟩
theorem walk {w : World} {la : Option Addr} {n c : Nat} {O A N : Nat → Nat} (hc : n ≤ c) (hn : n ≤ maxLen) (hp : PiecesAt w la n O A N) (o : Int) (wo : (Lit.int .i64 o).wf = true) (x y : Int) (wx : (Lit.int .u64 x).wf = true) (wy : (Lit.int .u64 y).wf = true) :
    Calls Tryz.prog 4 #[.slice la n c, .int .i64 o, .agg #[.int .u64 x, .int .u64 y]] w fun e w' => e = .returned (.bool true) ∧ Below w.heap.size w w' := by
  have b1 := bounds_u64 wx
  have b2 := bounds_u64 wy
  obtain ⟨x, rfl⟩ := Int.eq_ofNat_of_zero_le b1.1
  obtain ⟨y, rfl⟩ := Int.eq_ofNat_of_zero_le b2.1
  exact (core hp hn o (by omega) (by omega)).mono fun e w' ⟨h1, h2⟩ => ⟨h1, grown_below h2⟩
theorem laidOut : laidOutB Tryz.prog = true := by kernel_rfl
/-! ### The row's step: the guide's frame -/
theorem own : ownKnob Tryz.prog.godebug = none := by kernel_rfl
set_option maxRecDepth 100000 in
theorem lifted (os : Os) (started : os.Started) (H : Type) (enc : TypeId × Value → H) :
    ReturnsInHanded {} Tryz.checked os 4 .any (Rows.carveTakesSpec.pre6 enc Tryz.prog Tryz.f4 Rows.carveTakesRow.domain false) (Rows.carveTakesSpec.post enc Tryz.prog Tryz.f4 false true false false) := by
  refine returnsInHanded_of_change (C := Tryz.checked) own started (by kernel_rfl) Tryz.func4
    (ChangeSpec.witness6 (enc := enc) (C := Tryz.checked) false ⟨#[], #[.slice none 0 0, .int .i64 0, .agg #[.int .u64 0, .int .u64 0]], []⟩ 8 (by kernel_rfl) (by kernel_rfl) (by kernel_rfl) (by kernel_rfl)) ?_
  intro W base args ds gs before hval0 hW hcnd _
  have hval : ∀ (j : Nat) t v, Tryz.f4.params[j]? = some t → args[j]? = some v → Value.okWide Tryz.prog W .any base t v := hval0
  have hW' := hW
  obtain ⟨p, q, hA0, hV, rfl, hfz, hnd⟩ := hW
  have hA : DataW.TrodAll enc Tryz.prog W 0 (fun _ => true) true Tryz.f4.params.toList args.toList ds p := hA0
  rw [Tryz.params4] at hA hval
  obtain ⟨v0, vs0, d0, ds0, p0, q0, hargs, rfl, rfl, h0, r0⟩ := trodAll_cons hA
  obtain ⟨v1, vs1, d1, ds1, p1, q1, rfl, rfl, rfl, h1, r1⟩ := trodAll_cons r0
  obtain ⟨v2, vs2, d2, ds2, p2, q2, rfl, rfl, rfl, h2, r2⟩ := trodAll_cons r1
  obtain ⟨rfl, rfl, rfl⟩ := trodAll_nil r2
  obtain rfl : args = #[v0, v1, v2] := by cases args; simp_all
  obtain ⟨rfl, rfl⟩ := trodVars_none hV
  have lt0 : ∀ x ∈ p0, x.block < W.heap.size := by obtain ⟨m, hm⟩ := h0; exact DataW.trod_lt m _ _ _ hm
  obtain ⟨la0, n0, c0, A0, B0, C0, rfl, hc0, hn0, hp0⟩ := open_asks (hval 0 22 v0 rfl rfl) h0
  obtain ⟨a1, rfl, rfl, rfl, w1⟩ := open_int Tryz.underlying3 (hval 1 3 v1 rfl rfl) h1
  have lt2 : ∀ x ∈ p2, x.block < W.heap.size := by obtain ⟨m, hm⟩ := h2; exact DataW.trod_lt m _ _ _ hm
  obtain ⟨x2, y2, rfl, hx2, hy2⟩ := open_pair (hval 2 45 v2 rfl rfl) h2
  clear hA0 hval0
  refine (walk hc0 hn0 hp0 a1 w1 x2 y2 hx2 hy2).mono fun e W' ⟨he, bel⟩ => ?_
  subst he
  exact ⟨_, rfl, _, _, _, [], _, [], hW', trodAll_mk1 (shut_bool Tryz.underlying4 _), (trodAll_cons_mk (Below.trod laidOut (by kernel_rfl) (of_decide_eq_true (by kernel_rfl)) h0 bel lt0) (trodAll_cons_mk (shut_int Tryz.underlying3 w1) (trodAll_cons_mk (Below.trod laidOut (by kernel_rfl) (of_decide_eq_true (by kernel_rfl)) h2 bel lt2) trodAll_mk0))), rfl, bel.frame _, fun h => by cases h⟩

theorem over : Rows.carveTakesRow.holds Tryz.pinned (OpenSpec.ofChange Rows.carveTakesSpec) :=
  OpenClaim.holds_of_wide 4 Tryz.f4 rfl rfl rfl rfl rfl rfl rfl ⟨rfl, rfl, rfl, rfl, rfl⟩ rfl rfl rfl rfl rfl (by kernel_rfl) Tryz.func4 (by kernel_rfl)
    (of_decide_eq_true (by kernel_rfl)) (by unfold Func.isWrapper; first | (rw [if_pos (by decide +kernel)]; kernel_rfl) | (rw [if_neg (by decide +kernel)]; exact ⟨rfl, rfl⟩))
    (fun os started H enc _ => lifted os started H enc)

theorem proved : Rows.CarveTakesSaid :=
  over
#print axioms proved


end Go.Proofs.YtoamlkljfmgomaaGreat.carveTakes
