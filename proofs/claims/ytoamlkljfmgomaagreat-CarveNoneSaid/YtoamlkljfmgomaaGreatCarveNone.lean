/-
  Nothing is taken for nobody that there is, on odd numbers, or of too many bytes, and nothing is changed. The statement CarveNone; no condition.
-/
import Derived.Test.YtoamlkljfmgomaaGreatCarAb
import Derived.Test.YtoamlkljfmgomaaGreatAskO
import Derived.BigQuiet
import Derived.Deep.RegionHeld3
namespace Go.Proofs.YtoamlkljfmgomaaGreat.carveNone
open Go.ChangeShapes Go.WideShapes Go.ChangeAt Go.RowKit
set_option linter.unusedVariables false
set_option linter.unusedSimpArgs false
set_option maxRecDepth 100000

set_option maxHeartbeats 8000000 in
theorem core {w : World} {la : Option Addr} {n c q2 : Nat} {O A N : Nat → Nat} (hp : PiecesAt w la n O A N) (hn : n ≤ maxLen) (owner : Int) (h2 : q2 < 18446744073709551616) :
    Calls Tryz.prog 8 #[.slice la n c, .int .i64 owner, .int .u64 q2] w fun e w' => e = .returned (.bool true) ∧ w.grownBy w' none := by
  have htk := fun (V : World) (hg : w.grownBy V none) => taken10_any (c := c) (hp.later hg) hn
  obtain ⟨bs, hbs⟩ : ∃ bs, (tkS O A N (min n 20)).1 = bs := ⟨_, rfl⟩
  obtain ⟨L, hL⟩ : ∃ L, (tkS O A N (min n 20)).2 = L := ⟨_, rfl⟩
  rw [hbs, hL] at htk
  clear hbs hL
  by_cases ho : owner < 0 ∨ 8 < owner
  · have hwho : ∀ (T : Nat) (V : World), Calls Tryz.prog 14 #[.pointer (some ⟨T, 0, none⟩), .int .i64 owner, .int .u64 8, .int .u64 16] V fun e w' => e = .returned (.tuple #[.int .u64 0, .int .i64 1]) ∧ V.grownBy w' none := fun T V => hw_take_who _ 8 16 ho V
    have f24 : fitErr bs 8 24 = 1 := fitErr_arg (by decide)
    have f81 : fitErr bs 8 8192 = 1 := fitErr_arg (by decide)
    have e40 : (q2 : Int).tmod 40 = ((q2 % 40 : Nat) : Int) := by rw [Int.tmod_eq_emod_of_nonneg (by omega)]; omega
    obtain ⟨r, hr⟩ : ∃ r, q2 % 40 = r := ⟨_, rfl⟩
    rw [hr] at e40
    obtain ⟨q3, hq3⟩ : ∃ q3, 18446744073709551615 - r = q3 := ⟨_, rfl⟩
    have e3 : IntKind.u64.wrap (18446744073709551615 - (r : Int)) = (q3 : Nat) := by rw [IntKind.wrap_u64]; omega
    have b3 : q3 < 18446744073709551616 := by omega
    have fq3 : fitErr bs q3 16 = 2 := fitErr_size (.inl rfl) (by omega)
    clear hr hq3
    by_cases hlt : owner < 0
    · have j1 : decide (owner < 0) = true := decide_eq_true hlt
      go_enter Tryz.func8, Tryz.ntmps8
      go_wp2_with (first
        | (go_at_call 9; ((with_reducible refine (awake10 _).mono ?_); rintro e w1 ⟨rfl, hg1⟩))
        | (go_at_call 10; ((with_reducible refine (htk _ hg1).mono ?_); rintro e w2 ⟨T, R, v, rfl, H2, V2⟩; obtain ⟨l1, n1, c1, va, ln, vc, hv, hn1⟩ := V2.lie; subst hv; have ga := World.grownBy_alloc w2 (.cells #[.int .u64 4800, .slice l1 n1 c1, .slice (va 0) (ln 0) (vc 0), .slice (va 1) (ln 1) (vc 1), .slice (va 2) (ln 2) (vc 2), .slice (va 3) (ln 3) (vc 3), .slice (va 4) (ln 4) (vc 4), .slice (va 5) (ln 5) (vc 5), .slice (va 6) (ln 6) (vc 6), .slice (va 7) (ln 7) (vc 7)] 30) none; have B2 := heap_alloc_new' w2 (.cells #[.int .u64 4800, .slice l1 n1 c1, .slice (va 0) (ln 0) (vc 0), .slice (va 1) (ln 1) (vc 1), .slice (va 2) (ln 2) (vc 2), .slice (va 3) (ln 3) (vc 3), .slice (va 4) (ln 4) (vc 4), .slice (va 5) (ln 5) (vc 5), .slice (va 6) (ln 6) (vc 6), .slice (va 7) (ln 7) (vc 7)] 30); have HB2 := Lib.hid B2; clear B2; have H3 := H2.later ga; have V3 := V2.later ga; simp only [heapV, show ((4800 : Nat) : Int) = 4800 from rfl]))
        | (go_at_call 14; ((with_reducible refine (hwho _ _).mono ?_); rintro e4 w4 ⟨rfl, hg4⟩; have hc2 : Calls Tryz.prog 14 #[.pointer (some ⟨T, 0, none⟩), .int .i64 1, .int .u64 8, .int .u64 24] _ _ := hw_take_bad (H3.later hg4) (owner := 1) (n := 8) (a := 24) (by decide) (by decide) (by decide) (by decide) f24 (by decide)))
        | (go_at_call 14; ((with_reducible refine hc2.mono ?_); rintro e5 w5 ⟨rfl, hg5⟩; have G5 := grown_trans hg4 hg5; have hc3 : Calls Tryz.prog 14 #[.pointer (some ⟨T, 0, none⟩), .int .i64 1, .int .u64 8, .int .u64 8192] _ _ := hw_take_bad (H3.later G5) (owner := 1) (n := 8) (a := 8192) (by decide) (by decide) (by decide) (by decide) f81 (by decide)))
        | (go_at_call 14; ((with_reducible refine hc3.mono ?_); rintro e6 w6 ⟨rfl, hg6⟩; have G6 := grown_trans G5 hg6; have hc4 : Calls Tryz.prog 14 #[.pointer (some ⟨T, 0, none⟩), .int .i64 1, .int .u64 q3, .int .u64 16] _ _ := hw_take_bad (H3.later G6) (owner := 1) (n := q3) (a := 16) b3 (by decide) (by decide) (by decide) fq3 (by decide)))
        | (go_at_call 14; ((with_reducible refine hc4.mono ?_); rintro e7 w7 ⟨rfl, hg7⟩; have G7 := grown_trans G6 hg7; obtain ⟨⟨d0, d1, d2, d3, d4, d5, d6, d7, d8, d9⟩, _⟩ := ten_cells ((G7.block _ (lt_of_block HB2.out) (by simp)).trans HB2.out); have hso := sound10_any (H3.later G7) (V3.later G7).is; simp only [heapV, show ((4800 : Nat) : Int) = 4800 from rfl] at hso))
        | (go_at_call 13; ((with_reducible refine hso.mono ?_); rintro e8 w8 ⟨rfl, hg8⟩)))
      go_ret
      exact ⟨rfl, grown_trans hg1 (grown_trans H2.since (grown_trans ga (grown_trans G7 hg8)))⟩
    · have h8 : 8 < owner := by omega
      have j1 : decide (owner < 0) = false := decide_eq_false hlt
      have j2 : decide (8 < owner) = true := decide_eq_true h8
      go_enter Tryz.func8, Tryz.ntmps8
      go_wp2_with (first
        | (go_at_call 9; ((with_reducible refine (awake10 _).mono ?_); rintro e w1 ⟨rfl, hg1⟩))
        | (go_at_call 10; ((with_reducible refine (htk _ hg1).mono ?_); rintro e w2 ⟨T, R, v, rfl, H2, V2⟩; obtain ⟨l1, n1, c1, va, ln, vc, hv, hn1⟩ := V2.lie; subst hv; have ga := World.grownBy_alloc w2 (.cells #[.int .u64 4800, .slice l1 n1 c1, .slice (va 0) (ln 0) (vc 0), .slice (va 1) (ln 1) (vc 1), .slice (va 2) (ln 2) (vc 2), .slice (va 3) (ln 3) (vc 3), .slice (va 4) (ln 4) (vc 4), .slice (va 5) (ln 5) (vc 5), .slice (va 6) (ln 6) (vc 6), .slice (va 7) (ln 7) (vc 7)] 30) none; have B2 := heap_alloc_new' w2 (.cells #[.int .u64 4800, .slice l1 n1 c1, .slice (va 0) (ln 0) (vc 0), .slice (va 1) (ln 1) (vc 1), .slice (va 2) (ln 2) (vc 2), .slice (va 3) (ln 3) (vc 3), .slice (va 4) (ln 4) (vc 4), .slice (va 5) (ln 5) (vc 5), .slice (va 6) (ln 6) (vc 6), .slice (va 7) (ln 7) (vc 7)] 30); have HB2 := Lib.hid B2; clear B2; have H3 := H2.later ga; have V3 := V2.later ga; simp only [heapV, show ((4800 : Nat) : Int) = 4800 from rfl]))
        | (go_at_call 14; ((with_reducible refine (hwho _ _).mono ?_); rintro e4 w4 ⟨rfl, hg4⟩; have hc2 : Calls Tryz.prog 14 #[.pointer (some ⟨T, 0, none⟩), .int .i64 1, .int .u64 8, .int .u64 24] _ _ := hw_take_bad (H3.later hg4) (owner := 1) (n := 8) (a := 24) (by decide) (by decide) (by decide) (by decide) f24 (by decide)))
        | (go_at_call 14; ((with_reducible refine hc2.mono ?_); rintro e5 w5 ⟨rfl, hg5⟩; have G5 := grown_trans hg4 hg5; have hc3 : Calls Tryz.prog 14 #[.pointer (some ⟨T, 0, none⟩), .int .i64 1, .int .u64 8, .int .u64 8192] _ _ := hw_take_bad (H3.later G5) (owner := 1) (n := 8) (a := 8192) (by decide) (by decide) (by decide) (by decide) f81 (by decide)))
        | (go_at_call 14; ((with_reducible refine hc3.mono ?_); rintro e6 w6 ⟨rfl, hg6⟩; have G6 := grown_trans G5 hg6; have hc4 : Calls Tryz.prog 14 #[.pointer (some ⟨T, 0, none⟩), .int .i64 1, .int .u64 q3, .int .u64 16] _ _ := hw_take_bad (H3.later G6) (owner := 1) (n := q3) (a := 16) b3 (by decide) (by decide) (by decide) fq3 (by decide)))
        | (go_at_call 14; ((with_reducible refine hc4.mono ?_); rintro e7 w7 ⟨rfl, hg7⟩; have G7 := grown_trans G6 hg7; obtain ⟨⟨d0, d1, d2, d3, d4, d5, d6, d7, d8, d9⟩, _⟩ := ten_cells ((G7.block _ (lt_of_block HB2.out) (by simp)).trans HB2.out); have hso := sound10_any (H3.later G7) (V3.later G7).is; simp only [heapV, show ((4800 : Nat) : Int) = 4800 from rfl] at hso))
        | (go_at_call 13; ((with_reducible refine hso.mono ?_); rintro e8 w8 ⟨rfl, hg8⟩)))
      go_ret
      exact ⟨rfl, grown_trans hg1 (grown_trans H2.since (grown_trans ga (grown_trans G7 hg8)))⟩
  · obtain ⟨o, rfl⟩ := Int.eq_ofNat_of_zero_le (show 0 ≤ owner by omega)
    have ho8 : o ≤ 8 := by omega
    have i1 : ¬ (o : Int) < 0 := by omega
    have i2 : ¬ 8 < (o : Int) := by omega
    have j1 : decide ((o : Int) < 0) = false := decide_eq_false i1
    have j2 : decide (8 < (o : Int)) = false := decide_eq_false i2
    have hE : tkE bs 8 16 = 0 ∨ tkE bs 8 16 = 3 := by unfold tkE; cases fitM bs 8 16 <;> simp
    clear ho
    rcases hE with hE | hE
    · have HE := Lib.hid (show ((tkE bs 8 16 : Nat) : Int) = 0 by rw [hE]; rfl)
      clear hE
      go_enter Tryz.func8, Tryz.ntmps8
      go_wp2_with (first
        | (go_at_call 9; ((with_reducible refine (awake10 _).mono ?_); rintro e w1 ⟨rfl, hg1⟩))
        | (go_at_call 10; ((with_reducible refine (htk _ hg1).mono ?_); rintro e w2 ⟨T, R, v, rfl, H2, V2⟩; obtain ⟨l1, n1, c1, va, ln, vc, hv, hn1⟩ := V2.lie; subst hv; have ga := World.grownBy_alloc w2 (.cells #[.int .u64 4800, .slice l1 n1 c1, .slice (va 0) (ln 0) (vc 0), .slice (va 1) (ln 1) (vc 1), .slice (va 2) (ln 2) (vc 2), .slice (va 3) (ln 3) (vc 3), .slice (va 4) (ln 4) (vc 4), .slice (va 5) (ln 5) (vc 5), .slice (va 6) (ln 6) (vc 6), .slice (va 7) (ln 7) (vc 7)] 30) none; have B2 := heap_alloc_new' w2 (.cells #[.int .u64 4800, .slice l1 n1 c1, .slice (va 0) (ln 0) (vc 0), .slice (va 1) (ln 1) (vc 1), .slice (va 2) (ln 2) (vc 2), .slice (va 3) (ln 3) (vc 3), .slice (va 4) (ln 4) (vc 4), .slice (va 5) (ln 5) (vc 5), .slice (va 6) (ln 6) (vc 6), .slice (va 7) (ln 7) (vc 7)] 30); have HB2 := Lib.hid B2; clear B2; have H3 := H2.later ga; have V3 := V2.later ga; simp only [heapV, show ((4800 : Nat) : Int) = 4800 from rfl]; have hc := tk_code (owner := o) (n := 8) (a := 16) H3 (.inl rfl) (by decide) ho8; replace hc : Calls Tryz.prog 14 #[.pointer (some ⟨T, 0, none⟩), .int .i64 o, .int .u64 8, .int .u64 16] _ _ := hc))
        | (go_at_call 14; ((with_reducible refine hc.mono ?_); rintro e4 w4 ⟨rfl, R4, H4, K4⟩; rw [HE.out])))
      go_ret
      exact ⟨rfl, grown_trans hg1 H4.since⟩
    · have HE := Lib.hid (show ((tkE bs 8 16 : Nat) : Int) = 3 by rw [hE]; rfl)
      clear hE
      go_enter Tryz.func8, Tryz.ntmps8
      go_wp2_with (first
        | (go_at_call 9; ((with_reducible refine (awake10 _).mono ?_); rintro e w1 ⟨rfl, hg1⟩))
        | (go_at_call 10; ((with_reducible refine (htk _ hg1).mono ?_); rintro e w2 ⟨T, R, v, rfl, H2, V2⟩; obtain ⟨l1, n1, c1, va, ln, vc, hv, hn1⟩ := V2.lie; subst hv; have ga := World.grownBy_alloc w2 (.cells #[.int .u64 4800, .slice l1 n1 c1, .slice (va 0) (ln 0) (vc 0), .slice (va 1) (ln 1) (vc 1), .slice (va 2) (ln 2) (vc 2), .slice (va 3) (ln 3) (vc 3), .slice (va 4) (ln 4) (vc 4), .slice (va 5) (ln 5) (vc 5), .slice (va 6) (ln 6) (vc 6), .slice (va 7) (ln 7) (vc 7)] 30) none; have B2 := heap_alloc_new' w2 (.cells #[.int .u64 4800, .slice l1 n1 c1, .slice (va 0) (ln 0) (vc 0), .slice (va 1) (ln 1) (vc 1), .slice (va 2) (ln 2) (vc 2), .slice (va 3) (ln 3) (vc 3), .slice (va 4) (ln 4) (vc 4), .slice (va 5) (ln 5) (vc 5), .slice (va 6) (ln 6) (vc 6), .slice (va 7) (ln 7) (vc 7)] 30); have HB2 := Lib.hid B2; clear B2; have H3 := H2.later ga; have V3 := V2.later ga; simp only [heapV, show ((4800 : Nat) : Int) = 4800 from rfl]; have hc := tk_code (owner := o) (n := 8) (a := 16) H3 (.inl rfl) (by decide) ho8; replace hc : Calls Tryz.prog 14 #[.pointer (some ⟨T, 0, none⟩), .int .i64 o, .int .u64 8, .int .u64 16] _ _ := hc))
        | (go_at_call 14; ((with_reducible refine hc.mono ?_); rintro e4 w4 ⟨rfl, R4, H4, K4⟩; rw [HE.out])))
      go_ret
      exact ⟨rfl, grown_trans hg1 H4.since⟩
theorem walk {w : World} {la : Option Addr} {n c : Nat} {O A N : Nat → Nat} (hc : n ≤ c) (hn : n ≤ maxLen) (hp : PiecesAt w la n O A N) (o : Int) (wo : (Lit.int .i64 o).wf = true) (s : Int) (ws : (Lit.int .u64 s).wf = true) :
    Calls Tryz.prog 8 #[.slice la n c, .int .i64 o, .int .u64 s] w fun e w' => e = .returned (.bool true) ∧ Below w.heap.size w w' := by
  have b1 := bounds_u64 ws
  obtain ⟨s', rfl⟩ := Int.eq_ofNat_of_zero_le b1.1
  exact (core hp hn o (by omega)).mono fun e w' ⟨h1, h2⟩ => ⟨h1, grown_below h2⟩
theorem laidOut : laidOutB Tryz.prog = true := by kernel_rfl
/-! ### The row's step: the guide's frame -/
theorem own : ownKnob Tryz.prog.godebug = none := by kernel_rfl
set_option maxRecDepth 100000 in
theorem lifted (os : Os) (started : os.Started) (H : Type) (enc : TypeId × Value → H) :
    ReturnsInHanded {} Tryz.checked os 8 .any (Rows.carveNoneSpec.pre6 enc Tryz.prog Tryz.f8 Rows.carveNoneRow.domain false) (Rows.carveNoneSpec.post enc Tryz.prog Tryz.f8 false true false false) := by
  refine returnsInHanded_of_change (C := Tryz.checked) own started (by kernel_rfl) Tryz.func8
    (ChangeSpec.witness6 (enc := enc) (C := Tryz.checked) false ⟨#[], #[.slice none 0 0, .int .i64 0, .int .u64 0], []⟩ 8 (by kernel_rfl) (by kernel_rfl) (by kernel_rfl) (by kernel_rfl)) ?_
  intro W base args ds gs before hval0 hW hcnd _
  have hval : ∀ (j : Nat) t v, Tryz.f8.params[j]? = some t → args[j]? = some v → Value.okWide Tryz.prog W .any base t v := hval0
  have hW' := hW
  obtain ⟨p, q, hA0, hV, rfl, hfz, hnd⟩ := hW
  have hA : DataW.TrodAll enc Tryz.prog W 0 (fun _ => true) true Tryz.f8.params.toList args.toList ds p := hA0
  rw [Tryz.params8] at hA hval
  obtain ⟨v0, vs0, d0, ds0, p0, q0, hargs, rfl, rfl, h0, r0⟩ := trodAll_cons hA
  obtain ⟨v1, vs1, d1, ds1, p1, q1, rfl, rfl, rfl, h1, r1⟩ := trodAll_cons r0
  obtain ⟨v2, vs2, d2, ds2, p2, q2, rfl, rfl, rfl, h2, r2⟩ := trodAll_cons r1
  obtain ⟨rfl, rfl, rfl⟩ := trodAll_nil r2
  obtain rfl : args = #[v0, v1, v2] := by cases args; simp_all
  obtain ⟨rfl, rfl⟩ := trodVars_none hV
  have lt0 : ∀ x ∈ p0, x.block < W.heap.size := by obtain ⟨m, hm⟩ := h0; exact DataW.trod_lt m _ _ _ hm
  obtain ⟨la0, n0, c0, A0, B0, C0, rfl, hc0, hn0, hp0⟩ := open_asks (hval 0 22 v0 rfl rfl) h0
  obtain ⟨a1, rfl, rfl, rfl, w1⟩ := open_int Tryz.underlying3 (hval 1 3 v1 rfl rfl) h1
  obtain ⟨a2, rfl, rfl, rfl, w2⟩ := open_int Tryz.underlying23 (hval 2 23 v2 rfl rfl) h2
  clear hA0 hval0
  refine (walk hc0 hn0 hp0 a1 w1 a2 w2).mono fun e W' ⟨he, bel⟩ => ?_
  subst he
  exact ⟨_, rfl, _, _, _, [], _, [], hW', trodAll_mk1 (shut_bool Tryz.underlying4 _), (trodAll_cons_mk (Below.trod laidOut (by kernel_rfl) (of_decide_eq_true (by kernel_rfl)) h0 bel lt0) (trodAll_cons_mk (shut_int Tryz.underlying3 w1) (trodAll_cons_mk (shut_int Tryz.underlying23 w2) trodAll_mk0))), rfl, bel.frame _, fun h => by cases h⟩

theorem over : Rows.carveNoneRow.holds Tryz.pinned (OpenSpec.ofChange Rows.carveNoneSpec) :=
  OpenClaim.holds_of_wide 8 Tryz.f8 rfl rfl rfl rfl rfl rfl rfl ⟨rfl, rfl, rfl, rfl, rfl⟩ rfl rfl rfl rfl rfl (by kernel_rfl) Tryz.func8 (by kernel_rfl)
    (of_decide_eq_true (by kernel_rfl)) (by unfold Func.isWrapper; first | (rw [if_pos (by decide +kernel)]; kernel_rfl) | (rw [if_neg (by decide +kernel)]; exact ⟨rfl, rfl⟩))
    (fun os started H enc _ => lifted os started H enc)

theorem proved : Rows.CarveNoneSaid :=
  over
#print axioms proved


end Go.Proofs.YtoamlkljfmgomaaGreat.carveNone
