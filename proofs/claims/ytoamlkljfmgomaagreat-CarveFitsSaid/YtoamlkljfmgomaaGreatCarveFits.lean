/-
  Where any number of bytes fits best, on a multiple of any number, whatever was taken. The statement CarveFits; no condition.
-/
import Derived.Test.YtoamlkljfmgomaaGreatCarAb
import Derived.Test.YtoamlkljfmgomaaGreatAskO
import Derived.BigQuiet
import Derived.Deep.RegionHeld3
namespace Go.Proofs.YtoamlkljfmgomaaGreat.carveFits
open Go.ChangeShapes Go.WideShapes Go.ChangeAt Go.RowKit
set_option linter.unusedVariables false
set_option linter.unusedSimpArgs false
set_option maxRecDepth 100000

set_option maxHeartbeats 8000000 in
theorem core {w : World} {la : Option Addr} {n c q1 q2 : Nat} {O A N : Nat → Nat} (hp : PiecesAt w la n O A N) (hn : n ≤ maxLen) (h1 : q1 < 18446744073709551616) (h2 : q2 < 18446744073709551616) :
    Calls Tryz.prog 3 #[.slice la n c, .int .u64 q1, .int .u64 q2] w fun e w' => e = .returned (.bool true) ∧ w.grownBy w' none := by
  have htk := fun (V : World) (hg : w.grownBy V none) => taken10_any (c := c) (hp.later hg) hn
  obtain ⟨bs, hbs⟩ : ∃ bs, (tkS O A N (min n 20)).1 = bs := ⟨_, rfl⟩
  obtain ⟨L, hL⟩ : ∃ L, (tkS O A N (min n 20)).2 = L := ⟨_, rfl⟩
  rw [hbs, hL] at htk
  clear hbs hL
  obtain ⟨i, x, y, z, e, hcf, hrf, hcase⟩ := both_fit bs h1 h2
  have ee : ((e : Int) == (e : Int)) = true := by simp
  rcases hcase with ⟨rfl, hi, hx⟩ | ⟨hpos, rfl, rfl, rfl⟩
  · replace hcf : (∀ (w0 w : World) (T : Nat) (R : Option Nat) (L : Nat → List Nat), HW w0 w T R (fmt48 4800) 4800 bs L → Calls Tryz.prog 11 #[.pointer (some ⟨T, 0, none⟩), .int .u64 q1, .int .u64 q2] w fun e' w' => e' = .returned (.tuple #[.agg #[.int .u64 (x : Nat), .int .u64 (y : Nat), .int .u64 (z : Nat)], .int .i64 0]) ∧ w.grownBy w' none) := hcf
    replace hrf : (∀ (w0 w : World) (T : Nat) (R : Option Nat) (L : Nat → List Nat) (base : Nat) (v : Value), HW w0 w T R (fmt48 4800) 4800 bs L → HvK w R base v 4800 bs L → Calls Tryz.prog 12 #[v, .int .u64 q1, .int .u64 q2] w fun e' w' => e' = .returned (.tuple #[.int .i64 (i : Nat), .int .u64 (y : Nat), .int .u64 (z : Nat), .int .i64 0]) ∧ w.grownBy w' none) := hrf
    have HX := Lib.hid hx
    clear ee hx
    go_enter Tryz.func3, Tryz.ntmps3
    go_wp2_with (first
      | (go_at_call 9; ((with_reducible refine (awake10 _).mono ?_); rintro e w1 ⟨rfl, hg1⟩))
      | (go_at_call 10; ((with_reducible refine (htk _ hg1).mono ?_); rintro e w2 ⟨T, R, v, rfl, H2, V2⟩; obtain ⟨l1, n1, c1, va, ln, vc, hv, hn1⟩ := V2.lie; subst hv; have ga := World.grownBy_alloc w2 (.cells #[.int .u64 4800, .slice l1 n1 c1, .slice (va 0) (ln 0) (vc 0), .slice (va 1) (ln 1) (vc 1), .slice (va 2) (ln 2) (vc 2), .slice (va 3) (ln 3) (vc 3), .slice (va 4) (ln 4) (vc 4), .slice (va 5) (ln 5) (vc 5), .slice (va 6) (ln 6) (vc 6), .slice (va 7) (ln 7) (vc 7)] 30) none; have B2 := heap_alloc_new' w2 (.cells #[.int .u64 4800, .slice l1 n1 c1, .slice (va 0) (ln 0) (vc 0), .slice (va 1) (ln 1) (vc 1), .slice (va 2) (ln 2) (vc 2), .slice (va 3) (ln 3) (vc 3), .slice (va 4) (ln 4) (vc 4), .slice (va 5) (ln 5) (vc 5), .slice (va 6) (ln 6) (vc 6), .slice (va 7) (ln 7) (vc 7)] 30); have HB2 := Lib.hid B2; clear B2; have H3 := H2.later ga; have V3 := V2.later ga; simp only [heapV, show ((4800 : Nat) : Int) = 4800 from rfl]; have hc := hcf _ _ _ _ _ H3))
      | (go_at_call 11; ((with_reducible refine hc.mono ?_); rintro e4 w4 ⟨rfl, hg4⟩; have gb := World.grownBy_alloc w4 (.cells #[.int .u64 (x : Nat), .int .u64 (y : Nat), .int .u64 (z : Nat)] 34) none; have P4 := heap_alloc_new' w4 (.cells #[.int .u64 (x : Nat), .int .u64 (y : Nat), .int .u64 (z : Nat)] 34); have HP4 := Lib.hid P4; clear P4; have G4 := grown_trans hg4 gb; obtain ⟨⟨a0, a1', a2', a3, a4, a5, a6, a7, a8, a9⟩, _⟩ := ten_cells ((G4.block _ (lt_of_block HB2.out) (by simp)).trans HB2.out); have hr := hrf _ _ _ _ _ _ _ (H3.later G4) (V3.later G4); simp only [heapV, show ((4800 : Nat) : Int) = 4800 from rfl] at hr))
      | (go_at_call 12; ((with_reducible refine hr.mono ?_); rintro e5 w5 ⟨rfl, hg5⟩; have G5 := grown_trans G4 hg5; have P5 := (hg5.block _ (lt_of_block HP4.out) (by simp)).trans HP4.out; obtain ⟨p0, p1, p2⟩ := tag_cells P5; have HP5 := Lib.hid P5; clear P5)))
    have hV5 := V3.later G5
    obtain ⟨bl, vs, hve, hob, _⟩ := hV5
    obtain ⟨rfl, hvl⟩ : bl = .slice l1 n1 c1 ∧ True := ⟨by simp only [heapV, Value.agg.injEq, Array.mk.injEq, List.cons.injEq] at hve; exact hve.2.1.symm, trivial⟩
    obtain ⟨la5, c5, hbe, hat⟩ := hob.at_
    obtain ⟨b, o, rfl, hb, hcs⟩ := hat.cells (by omega)
    obtain ⟨k0, _, _, _, _⟩ := hcs i hi
    injection hbe with e1 e2 e3
    subst e1
    have hin : (i : Int) < (n1 : Int) := by omega
    rw [← HX.out] at k0
    obtain ⟨⟨d0, d1, d2, d3, d4, d5, d6, d7, d8, d9⟩, _⟩ := ten_cells ((G5.block _ (lt_of_block HB2.out) (by simp)).trans HB2.out)
    clear e2 e3 hve hob hat hcs a0 a1' a2' a3 a4 a5 a6 a7 a8 a9 hr hc
    go_region_held3 (fun w' => w'.cell? ⟨w2.heap.size, 1, none⟩ = some (.slice (some ⟨b, o, none⟩) n1 c1) ∧ w'.cell? ⟨w4.heap.size, 0, none⟩ = some (.int .u64 x) ∧ w'.cell? ⟨w4.heap.size, 1, none⟩ = some (.int .u64 y) ∧ w'.cell? ⟨w4.heap.size, 2, none⟩ = some (.int .u64 z) ∧ w'.cell? ⟨b, o + i * 5, none⟩ = some (.int .u64 x)) (go_keep) (fail)
    go_wp2
    go_ret
    exact ⟨rfl, grown_trans hg1 (grown_trans H2.since (grown_trans ga (grown_drew G5)))⟩
  · replace hcf : (∀ (w0 w : World) (T : Nat) (R : Option Nat) (L : Nat → List Nat), HW w0 w T R (fmt48 4800) 4800 bs L → Calls Tryz.prog 11 #[.pointer (some ⟨T, 0, none⟩), .int .u64 q1, .int .u64 q2] w fun e' w' => e' = .returned (.tuple #[.agg #[.int .u64 0, .int .u64 0, .int .u64 0], .int .i64 (e : Nat)]) ∧ w.grownBy w' none) := hcf
    replace hrf : (∀ (w0 w : World) (T : Nat) (R : Option Nat) (L : Nat → List Nat) (base : Nat) (v : Value), HW w0 w T R (fmt48 4800) 4800 bs L → HvK w R base v 4800 bs L → Calls Tryz.prog 12 #[v, .int .u64 q1, .int .u64 q2] w fun e' w' => e' = .returned (.tuple #[.int .i64 (i : Nat), .int .u64 0, .int .u64 0, .int .i64 (e : Nat)]) ∧ w.grownBy w' none) := hrf
    have e0 : ¬ (e : Int) = 0 := by omega
    have e1 : ((e : Int) != 0) = true := by simpa using e0
    go_enter Tryz.func3, Tryz.ntmps3
    go_wp2_with (first
      | (go_at_call 9; ((with_reducible refine (awake10 _).mono ?_); rintro e w1 ⟨rfl, hg1⟩))
      | (go_at_call 10; ((with_reducible refine (htk _ hg1).mono ?_); rintro e w2 ⟨T, R, v, rfl, H2, V2⟩; obtain ⟨l1, n1, c1, va, ln, vc, hv, hn1⟩ := V2.lie; subst hv; have ga := World.grownBy_alloc w2 (.cells #[.int .u64 4800, .slice l1 n1 c1, .slice (va 0) (ln 0) (vc 0), .slice (va 1) (ln 1) (vc 1), .slice (va 2) (ln 2) (vc 2), .slice (va 3) (ln 3) (vc 3), .slice (va 4) (ln 4) (vc 4), .slice (va 5) (ln 5) (vc 5), .slice (va 6) (ln 6) (vc 6), .slice (va 7) (ln 7) (vc 7)] 30) none; have B2 := heap_alloc_new' w2 (.cells #[.int .u64 4800, .slice l1 n1 c1, .slice (va 0) (ln 0) (vc 0), .slice (va 1) (ln 1) (vc 1), .slice (va 2) (ln 2) (vc 2), .slice (va 3) (ln 3) (vc 3), .slice (va 4) (ln 4) (vc 4), .slice (va 5) (ln 5) (vc 5), .slice (va 6) (ln 6) (vc 6), .slice (va 7) (ln 7) (vc 7)] 30); have HB2 := Lib.hid B2; clear B2; have H3 := H2.later ga; have V3 := V2.later ga; simp only [heapV, show ((4800 : Nat) : Int) = 4800 from rfl]; have hc := hcf _ _ _ _ _ H3))
      | (go_at_call 11; ((with_reducible refine hc.mono ?_); rintro e4 w4 ⟨rfl, hg4⟩; have gb := World.grownBy_alloc w4 (.cells #[.int .u64 0, .int .u64 0, .int .u64 0] 34) none; have P4 := heap_alloc_new' w4 (.cells #[.int .u64 0, .int .u64 0, .int .u64 0] 34); have HP4 := Lib.hid P4; clear P4; have G4 := grown_trans hg4 gb; obtain ⟨⟨a0, a1', a2', a3, a4, a5, a6, a7, a8, a9⟩, _⟩ := ten_cells ((G4.block _ (lt_of_block HB2.out) (by simp)).trans HB2.out); have hr := hrf _ _ _ _ _ _ _ (H3.later G4) (V3.later G4); simp only [heapV, show ((4800 : Nat) : Int) = 4800 from rfl] at hr))
      | (go_at_call 12; ((with_reducible refine hr.mono ?_); rintro e5 w5 ⟨rfl, hg5⟩; have G5 := grown_trans G4 hg5; have P5 := (hg5.block _ (lt_of_block HP4.out) (by simp)).trans HP4.out; obtain ⟨p0, p1, p2⟩ := tag_cells P5; have HP5 := Lib.hid P5; clear P5)))
    go_ret
    exact ⟨rfl, grown_trans hg1 (grown_trans H2.since (grown_trans ga G5))⟩
theorem walk {w : World} {la : Option Addr} {n c : Nat} {O A N : Nat → Nat} (hc : n ≤ c) (hn : n ≤ maxLen) (hp : PiecesAt w la n O A N) (s : Int) (ws : (Lit.int .u64 s).wf = true) (o : Int) (wo : (Lit.int .u64 o).wf = true) :
    Calls Tryz.prog 3 #[.slice la n c, .int .u64 s, .int .u64 o] w fun e w' => e = .returned (.bool true) ∧ Below w.heap.size w w' := by
  have b1 := bounds_u64 ws
  have b2 := bounds_u64 wo
  obtain ⟨s', rfl⟩ := Int.eq_ofNat_of_zero_le b1.1
  obtain ⟨o', rfl⟩ := Int.eq_ofNat_of_zero_le b2.1
  exact (core hp hn (by omega) (by omega)).mono fun e w' ⟨h1, h2⟩ => ⟨h1, grown_below h2⟩
theorem laidOut : laidOutB Tryz.prog = true := by kernel_rfl
/-! ### The row's step: the guide's frame -/
theorem own : ownKnob Tryz.prog.godebug = none := by kernel_rfl
set_option maxRecDepth 100000 in
theorem lifted (os : Os) (started : os.Started) (H : Type) (enc : TypeId × Value → H) :
    ReturnsInHanded {} Tryz.checked os 3 .any (Rows.carveFitsSpec.pre6 enc Tryz.prog Tryz.f3 Rows.carveFitsRow.domain false) (Rows.carveFitsSpec.post enc Tryz.prog Tryz.f3 false true false false) := by
  refine returnsInHanded_of_change (C := Tryz.checked) own started (by kernel_rfl) Tryz.func3
    (ChangeSpec.witness6 (enc := enc) (C := Tryz.checked) false ⟨#[], #[.slice none 0 0, .int .u64 0, .int .u64 0], []⟩ 8 (by kernel_rfl) (by kernel_rfl) (by kernel_rfl) (by kernel_rfl)) ?_
  intro W base args ds gs before hval0 hW hcnd _
  have hval : ∀ (j : Nat) t v, Tryz.f3.params[j]? = some t → args[j]? = some v → Value.okWide Tryz.prog W .any base t v := hval0
  have hW' := hW
  obtain ⟨p, q, hA0, hV, rfl, hfz, hnd⟩ := hW
  have hA : DataW.TrodAll enc Tryz.prog W 0 (fun _ => true) true Tryz.f3.params.toList args.toList ds p := hA0
  rw [Tryz.params3] at hA hval
  obtain ⟨v0, vs0, d0, ds0, p0, q0, hargs, rfl, rfl, h0, r0⟩ := trodAll_cons hA
  obtain ⟨v1, vs1, d1, ds1, p1, q1, rfl, rfl, rfl, h1, r1⟩ := trodAll_cons r0
  obtain ⟨v2, vs2, d2, ds2, p2, q2, rfl, rfl, rfl, h2, r2⟩ := trodAll_cons r1
  obtain ⟨rfl, rfl, rfl⟩ := trodAll_nil r2
  obtain rfl : args = #[v0, v1, v2] := by cases args; simp_all
  obtain ⟨rfl, rfl⟩ := trodVars_none hV
  have lt0 : ∀ x ∈ p0, x.block < W.heap.size := by obtain ⟨m, hm⟩ := h0; exact DataW.trod_lt m _ _ _ hm
  obtain ⟨la0, n0, c0, A0, B0, C0, rfl, hc0, hn0, hp0⟩ := open_asks (hval 0 22 v0 rfl rfl) h0
  obtain ⟨a1, rfl, rfl, rfl, w1⟩ := open_int Tryz.underlying23 (hval 1 23 v1 rfl rfl) h1
  obtain ⟨a2, rfl, rfl, rfl, w2⟩ := open_int Tryz.underlying23 (hval 2 23 v2 rfl rfl) h2
  clear hA0 hval0
  refine (walk hc0 hn0 hp0 a1 w1 a2 w2).mono fun e W' ⟨he, bel⟩ => ?_
  subst he
  exact ⟨_, rfl, _, _, _, [], _, [], hW', trodAll_mk1 (shut_bool Tryz.underlying4 _), (trodAll_cons_mk (Below.trod laidOut (by kernel_rfl) (of_decide_eq_true (by kernel_rfl)) h0 bel lt0) (trodAll_cons_mk (shut_int Tryz.underlying23 w1) (trodAll_cons_mk (shut_int Tryz.underlying23 w2) trodAll_mk0))), rfl, bel.frame _, fun h => by cases h⟩

theorem over : Rows.carveFitsRow.holds Tryz.pinned (OpenSpec.ofChange Rows.carveFitsSpec) :=
  OpenClaim.holds_of_wide 3 Tryz.f3 rfl rfl rfl rfl rfl rfl rfl ⟨rfl, rfl, rfl, rfl, rfl⟩ rfl rfl rfl rfl rfl (by kernel_rfl) Tryz.func3 (by kernel_rfl)
    (of_decide_eq_true (by kernel_rfl)) (by unfold Func.isWrapper; first | (rw [if_pos (by decide +kernel)]; kernel_rfl) | (rw [if_neg (by decide +kernel)]; exact ⟨rfl, rfl⟩))
    (fun os started H enc _ => lifted os started H enc)

theorem proved : Rows.CarveFitsSaid :=
  over
#print axioms proved


end Go.Proofs.YtoamlkljfmgomaaGreat.carveFits
