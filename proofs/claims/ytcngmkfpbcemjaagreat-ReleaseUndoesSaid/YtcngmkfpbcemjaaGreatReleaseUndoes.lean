/-
  What was taken, and is freed, leaves the heap as if it had not been taken; freed twice it isn't there. The statement ReleaseUndoes; no condition.
-/
import Derived.Test.YtcngmkfpbcemjaaGreatLRek
import Derived.BigQuiet
import Derived.Deep.RegionHeld3
namespace Go.Proofs.YtcngmkfpbcemjaaGreat.releaseUndoes
open Go.ChangeShapes Go.WideShapes Go.ChangeAt Go.RowKit
set_option linter.unusedVariables false
set_option linter.unusedSimpArgs false
set_option maxRecDepth 100000

theorem undo {w0 W w1 w2 : World} {T T2 : Nat} {R R2 : Option Nat} {ws ws2 : List Nat} {E m o i : Nat} {bs : List Blk} {L : Nat → List Nat} (h : HW w0 W T R ws E bs L) (ho : o ≤ 8) (hf : fitM bs m 16 = some i) (h2 : HW w1 w2 T2 R2 ws2 E (tkB bs o m 16) (tkL bs L o m 16)) :
    frE (tkB bs o m 16) (tkP bs m 16) = 0 ∧ frB (tkB bs o m 16) (tkP bs m 16) = bs ∧ (∀ c, c < 8 → frL (tkB bs o m 16) (tkL bs L o m 16) (tkP bs m 16) c = L c) ∧ fstN (pF (tkP bs m 16)) bs = none := by
  obtain ⟨_, _, _, _, _, _, hs⟩ := h
  obtain ⟨_, _, _, _, _, _, hs2⟩ := h2
  unfold tkB tkL at hs2
  unfold tkB tkL tkP
  rw [hf] at hs2 ⊢
  obtain ⟨a1, a2, a3, a4⟩ := take_free hs ho hf (.inr trivial) _ hs2
  refine ⟨a1, a2, a3, ?_⟩
  revert a4
  unfold frE
  dsimp only
  cases fstN (pF (gO bs i + padN (gO bs i) 16 + 32)) bs with
  | none => intro; rfl
  | some i => intro h; exact absurd h (show ¬ ((0 : Nat) = 4) by decide)
theorem HW.lists {w0 w : World} {T : Nat} {R : Option Nat} {ws : List Nat} {E : Nat} {bs : List Blk} {L L' : Nat → List Nat} (h : HW w0 w T R ws E bs L) (hl : ∀ c, c < 8 → L c = L' c) : HW w0 w T R ws E bs L' := by
  obtain ⟨h0, M, B, D, l, h1, h2⟩ := h
  exact ⟨h0, M, B, D, l, h1, h2.lists hl⟩
set_option maxHeartbeats 8000000 in
theorem core {w : World} {la : Option Addr} {n c : Nat} {X O A N : Nat → Nat} (hp : DoneAt w la n X O A N) (hn : n ≤ maxLen) {o m : Nat} (ho : o < 256) (hm : m < 65536) :
    Calls Tryz.prog 4 #[.slice la n c, .int .u8 o, .int .u16 m] w fun e w' => e = .returned (.bool true) ∧ w.grownBy w' none := by
  obtain ⟨E, bs, L, hE, hu25, hpl⟩ := plays (c := c) hp hn
  have e9 : (o : Int).tmod 9 = ((o % 9 : Nat) : Int) := by rw [Int.tmod_eq_emod_of_nonneg (by omega)]; omega
  have b9 : o % 9 < 9 := Nat.mod_lt _ (by decide)
  obtain ⟨o9, eo9⟩ : ∃ o9, o % 9 = o9 := ⟨_, rfl⟩
  rw [eo9] at e9 b9
  have w9 : IntKind.i64.wrap (o9 : Int) = (o9 : Nat) := by rw [IntKind.wrap_i64]; omega
  have wm : IntKind.u64.wrap (m : Int) = (m : Nat) := by rw [IntKind.wrap_u64]; omega
  have htk : ∀ (V W : World) (T : Nat) (R : Option Nat), HW V W T R (fmt48 4800) E bs L → Calls Tryz.prog 16 #[.pointer (some ⟨T, 0, none⟩), .int .i64 o9, .int .u64 m, .int .u64 16] W fun e w' => e = .returned (.tuple #[.int .u64 (tkP bs m 16 : Nat), .int .i64 (tkE bs m 16 : Nat)]) ∧ ∃ R', HW V w' T R' (fmt48 4800) E (tkB bs o9 m 16) (tkL bs L o9 m 16) ∧ Keep W R w' R' := fun V W T R h => tk_code h (n := m) (a := 16) (owner := o9) (.inl rfl) (by omega) (by omega)
  cases hf : fitM bs m 16 with
  | none =>
    have htn : ∀ (V W : World) (T : Nat) (R : Option Nat), HW V W T R (fmt48 4800) E bs L → Calls Tryz.prog 16 #[.pointer (some ⟨T, 0, none⟩), .int .i64 o9, .int .u64 m, .int .u64 16] W fun e w' => e = .returned (.tuple #[.int .u64 0, .int .i64 3]) ∧ ∃ R', HW V w' T R' (fmt48 4800) E bs L ∧ Keep W R w' R' := fun V W T R h => by
      have := htk V W T R h
      unfold tkP tkE tkB tkL at this
      rw [hf] at this
      exact this
    clear hE eo9 hf htk
    go_enter Tryz.func4, Tryz.ntmps4
    go_wp2_with (first
      | (go_at_call 9; ((with_reducible refine (awake11 _).mono ?_); rintro e w1 ⟨rfl, hg1⟩))
      | (go_at_call 10; ((with_reducible refine (hpl _ hg1).mono ?_); rintro e w2 ⟨T, R, l1, n1, c1, va, ln, vc, rfl, H2, V2⟩; have ga2 := World.grownBy_alloc w2 (.cells (hC E l1 n1 c1 va ln vc) 30) none; have HB2 := Lib.hid (heap_alloc_new' w2 (.cells (hC E l1 n1 c1 va ln vc) 30)); have H3 := H2.later ga2; have V3 := V2.later ga2; obtain ⟨⟨d0, d1, d2, d3, d4, d5, d6, d7, d8, d9⟩, _⟩ := ten_cells HB2.out; have htk1 := htn _ _ _ _ H3))
      | (go_at_call 16; ((with_reducible refine htk1.mono ?_); rintro e5 w5 ⟨rfl, R5, H5, K5⟩; have B5 := K5.far HB2.out (by decide) (by decide); obtain ⟨⟨d0, d1, d2, d3, d4, d5, d6, d7, d8, d9⟩, _⟩ := ten_cells B5; clear B5; have hso := sound11_any H5 (V3.step K5).is))
      | (go_at_call 11; ((with_reducible refine hso.mono ?_); rintro e6 w6 ⟨rfl, hg6⟩)))
    go_ret
    exact ⟨rfl, grown_trans hg1 (grown_trans H5.since hg6)⟩
  | some i =>
    obtain ⟨p, hp'⟩ : ∃ p, tkP bs m 16 = p := ⟨_, rfl⟩
    have htn : ∀ (V W : World) (T : Nat) (R : Option Nat), HW V W T R (fmt48 4800) E bs L → Calls Tryz.prog 16 #[.pointer (some ⟨T, 0, none⟩), .int .i64 o9, .int .u64 m, .int .u64 16] W fun e w' => e = .returned (.tuple #[.int .u64 p, .int .i64 0]) ∧ ∃ R', HW V w' T R' (fmt48 4800) E (tkB bs o9 m 16) (tkL bs L o9 m 16) ∧ Keep W R w' R' := fun V W T R h => by
      have := htk V W T R h
      rw [hp'] at this
      have e0 : tkE bs m 16 = 0 := by unfold tkE; rw [hf]
      rw [e0] at this
      exact this
    have hfr : ∀ (V V1 W W1 : World) (T T1 : Nat) (R R1 : Option Nat), HW V1 W1 T1 R1 (fmt48 4800) E bs L → HW V W T R (fmt48 4800) E (tkB bs o9 m 16) (tkL bs L o9 m 16) → Calls Tryz.prog 14 #[.pointer (some ⟨T, 0, none⟩), .int .u64 p] W fun e w' => e = .returned (.int .i64 0) ∧ ∃ R', HW V w' T R' (fmt48 4800) E bs L ∧ Keep W R w' R' := fun V V1 W W1 T T1 R R1 h1 h => by
      obtain ⟨a1, a2, a3, a4⟩ := undo h1 (by omega) hf h
      have := fr_code h p
      rw [hp'] at a1 a2 a3
      rw [a1, a2] at this
      refine this.mono ?_
      rintro e w' ⟨rfl, R', h2, K⟩
      exact ⟨rfl, R', HW.lists h2 a3, K⟩
    have hfb : ∀ (V V1 W W1 W2 : World) (T T1 T2 : Nat) (R R1 R2 : Option Nat), HW V1 W1 T1 R1 (fmt48 4800) E bs L → HW V W T R (fmt48 4800) E (tkB bs o9 m 16) (tkL bs L o9 m 16) → HW V W2 T2 R2 (fmt48 4800) E bs L → Calls Tryz.prog 14 #[.pointer (some ⟨T2, 0, none⟩), .int .u64 p] W2 fun e w' => e = .returned (.int .i64 4) ∧ W2.grownBy w' none := fun V V1 W W1 W2 T T1 T2 R R1 R2 h1 h h2 => by
      obtain ⟨a1, a2, a3, a4⟩ := undo h1 (by omega) hf h
      rw [hp'] at a4
      exact free_bad (hw_find_none h2 a4)
    clear hE eo9 hf htk hp'
    go_enter Tryz.func4, Tryz.ntmps4
    go_wp2_with (first
      | (go_at_call 9; ((with_reducible refine (awake11 _).mono ?_); rintro e w1 ⟨rfl, hg1⟩))
      | (go_at_call 10; ((with_reducible refine (hpl _ hg1).mono ?_); rintro e w2 ⟨T, R, l1, n1, c1, va, ln, vc, rfl, H2, V2⟩; have ga2 := World.grownBy_alloc w2 (.cells (hC E l1 n1 c1 va ln vc) 30) none; have HB2 := Lib.hid (heap_alloc_new' w2 (.cells (hC E l1 n1 c1 va ln vc) 30)); have H3 := H2.later ga2; have V3 := V2.later ga2; obtain ⟨⟨d0, d1, d2, d3, d4, d5, d6, d7, d8, d9⟩, _⟩ := ten_cells HB2.out; have htk1 := htn _ _ _ _ H3))
      | (go_at_call 16; ((with_reducible refine htk1.mono ?_); rintro e5 w5 ⟨rfl, R5, H5, K5⟩; have B5 := K5.far HB2.out (by decide) (by decide); have HB5 := Lib.hid B5; obtain ⟨⟨d0, d1, d2, d3, d4, d5, d6, d7, d8, d9⟩, _⟩ := ten_cells B5; clear B5; have hfr1 := hfr _ _ _ _ _ _ _ _ H3 H5))
      | (go_at_call 14; ((with_reducible refine hfr1.mono ?_); rintro e6 w6 ⟨rfl, R6, H6, K6⟩; have B6 := K6.far HB5.out (by decide) (by decide); have HB6 := Lib.hid B6; obtain ⟨⟨d0, d1, d2, d3, d4, d5, d6, d7, d8, d9⟩, _⟩ := ten_cells B6; clear B6; have hfr2 := hfb _ _ _ _ _ _ _ _ _ _ _ H3 H5 H6))
      | (go_at_call 14; ((with_reducible refine hfr2.mono ?_); rintro e7 w7 ⟨rfl, hg7⟩; have B7 := (hg7.block _ (lt_of_block HB6.out) (by simp)).trans HB6.out; obtain ⟨⟨d0, d1, d2, d3, d4, d5, d6, d7, d8, d9⟩, _⟩ := ten_cells B7; clear B7; have hso := sound11_any (H6.later hg7) (((V3.step K5).step K6).later hg7).is))
      | (go_at_call 11; ((with_reducible refine hso.mono ?_); rintro e8 w8 ⟨rfl, hg8⟩)))
    go_ret
    exact ⟨rfl, grown_trans hg1 (grown_trans H6.since (grown_trans hg7 hg8))⟩
theorem walk {w : World} {la : Option Addr} {n c : Nat} {X O A N : Nat → Nat} (hc : n ≤ c) (hn : n ≤ maxLen) (hp : DoneAt w la n X O A N) (o : Int) (wo : (Lit.int .u8 o).wf = true) (m : Int) (wm : (Lit.int .u16 m).wf = true) :
    Calls Tryz.prog 4 #[.slice la n c, .int .u8 o, .int .u16 m] w fun e w' => e = .returned (.bool true) ∧ Below w.heap.size w w' := by
  have bo := bounds_u8 wo
  obtain ⟨o, rfl⟩ := Int.eq_ofNat_of_zero_le bo.1
  have bm := bounds_u16 wm
  obtain ⟨m, rfl⟩ := Int.eq_ofNat_of_zero_le bm.1
  exact (core hp hn (by omega) (by omega)).mono fun e w' ⟨h1, h2⟩ => ⟨h1, grown_below h2⟩
theorem laidOut : laidOutB Tryz.prog = true := by kernel_rfl
/-! ### The row's step: the guide's frame -/
theorem own : ownKnob Tryz.prog.godebug = none := by kernel_rfl
set_option maxRecDepth 100000 in
theorem lifted (os : Os) (started : os.Started) (H : Type) (enc : TypeId × Value → H) :
    ReturnsInHanded {} Tryz.checked os 4 .any (Rows.releaseUndoesSpec.pre6 enc Tryz.prog Tryz.f4 Rows.releaseUndoesRow.domain false) (Rows.releaseUndoesSpec.post enc Tryz.prog Tryz.f4 false true false false) := by
  refine returnsInHanded_of_change (C := Tryz.checked) own started (by kernel_rfl) Tryz.func4
    (ChangeSpec.witness6 (enc := enc) (C := Tryz.checked) false ⟨#[], #[.slice none 0 0, .int .u8 0, .int .u16 0], []⟩ 8 (by kernel_rfl) (by kernel_rfl) (by kernel_rfl) (by kernel_rfl)) ?_
  intro W base args ds gs before hval0 hW hcnd _
  have hval : ∀ (j : Nat) t v, Tryz.f4.params[j]? = some t → args[j]? = some v → Value.okWide Tryz.prog W .any base t v := hval0
  have hW' := hW
  obtain ⟨p, q, hA0, hV, rfl, hfz, hnd⟩ := hW
  have hA : DataW.TrodAll enc Tryz.prog W 0 (fun _ => true) true Tryz.f4.params.toList args.toList ds p := hA0
  rw [Tryz.params4] at hA hval
  obtain ⟨v0, vs0, d0, ds0, p0, q0, hargs, rfl, rfl, h0, r0⟩ := trodAll_cons hA
  obtain ⟨v1, vs1, d1, ds1, p1, q1, rfl, rfl, rfl, h1, r1⟩ := trodAll_cons r0
  obtain ⟨v2, vs2, d2, ds2, p2, q2, rfl, rfl, rfl, h2, r2⟩ := trodAll_cons r1
  obtain ⟨rfl, rfl, rfl⟩ := trodAll_nil r2
  obtain rfl : args = #[v0, v1, v2] := by cases args; simp_all
  obtain ⟨rfl, rfl⟩ := trodVars_none hV
  have lt0 : ∀ x ∈ p0, x.block < W.heap.size := by obtain ⟨m, hm⟩ := h0; exact DataW.trod_lt m _ _ _ hm
  obtain ⟨la0, n0, c0, X0, O0, A0, N0, rfl, hc0, hn0, hp0⟩ := open_done (hval 0 22 v0 rfl rfl) h0
  obtain ⟨a1, rfl, rfl, rfl, w1⟩ := open_int Tryz.underlying5 (hval 1 5 v1 rfl rfl) h1
  obtain ⟨a2, rfl, rfl, rfl, w2⟩ := open_int Tryz.underlying41 (hval 2 41 v2 rfl rfl) h2
  clear hA0 hval0
  refine (walk hc0 hn0 hp0 a1 w1 a2 w2).mono fun e W' ⟨he, bel⟩ => ?_
  subst he
  exact ⟨_, rfl, _, _, _, [], _, [], hW', trodAll_mk1 (shut_bool Tryz.underlying4 _), (trodAll_cons_mk (Below.trod laidOut (by kernel_rfl) (of_decide_eq_true (by kernel_rfl)) h0 bel lt0) (trodAll_cons_mk (shut_int Tryz.underlying5 w1) (trodAll_cons_mk (shut_int Tryz.underlying41 w2) trodAll_mk0))), rfl, bel.frame _, fun h => by cases h⟩

theorem over : Rows.releaseUndoesRow.holds Tryz.pinned (OpenSpec.ofChange Rows.releaseUndoesSpec) :=
  OpenClaim.holds_of_wide 4 Tryz.f4 rfl rfl rfl rfl rfl rfl rfl ⟨rfl, rfl, rfl, rfl, rfl⟩ rfl rfl rfl rfl rfl (by kernel_rfl) Tryz.func4 (by kernel_rfl)
    (of_decide_eq_true (by kernel_rfl)) (by unfold Func.isWrapper; first | (rw [if_pos (by decide +kernel)]; kernel_rfl) | (rw [if_neg (by decide +kernel)]; exact ⟨rfl, rfl⟩))
    (fun os started H enc _ => lifted os started H enc)

theorem proved : Rows.ReleaseUndoesSaid :=
  over
#print axioms proved


end Go.Proofs.YtcngmkfpbcemjaaGreat.releaseUndoes
