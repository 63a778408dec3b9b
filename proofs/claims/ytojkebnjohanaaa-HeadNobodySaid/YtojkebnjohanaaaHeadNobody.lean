/-
  Nobody's segment isn't formatted, nor checked; checksums of unlike sizes are unlike. The statement HeadNobody, for every two numbers; no condition.
-/
import Derived.Test.YtojkebnjohanaaaHeadG
import Derived.Test.YtojkebnjohanaaaPutO
namespace Go.Proofs.Ytojkebnjohanaaa.headNobody
open Go.ChangeShapes Go.WideShapes Go.ChangeAt Go.RowKit
set_option linter.unusedVariables false
set_option linter.unusedSimpArgs false

set_option maxHeartbeats 1000000 in
theorem walk_core (a b : Nat) (ha : a < 18446744073709551616) (hb : b < 18446744073709551616) (w : World) :
    Calls Try.prog 8 #[.int .u64 a, .int .u64 b] w fun e w' => e = .returned (.bool true) ∧ w.grownBy w' none := by
  have hf := fun w => format_nil a w
  have hr := fun w => hresize_nil a ha w
  have hp := fun w => hplant_nil a w
  have hc := fun w => hcheck_nil w
  have hz := fun w => hsize_nil w
  have ht := fun w => hroot_nil w
  have sa := fun w => hsum_any a ha w
  have sb := fun w => hsum_any b hb w
  have ra := fun w => rsum_any a ha w
  have hs := sum_beq a b ha hb
  obtain ⟨x, ex⟩ : ∃ x, sumN a = x := ⟨_, rfl⟩
  obtain ⟨y, ey⟩ : ∃ y, sumN b = y := ⟨_, rfl⟩
  rw [ex] at sa ra hs
  rw [ey] at sb hs
  clear ex ey
  go_enter Try.func8, Try.ntmps8
  go_wp2_with (first | (go_at_call 9; ((with_reducible refine (awake4 _).mono ?_); rintro e w1 ⟨rfl, hg1⟩)) | (go_at_call 11; ((with_reducible refine (hf _).mono ?_); rintro e w2 ⟨rfl, hg2⟩)) | (go_at_call 25; ((with_reducible refine (hr _).mono ?_); rintro e w3 ⟨rfl, rfl⟩)) | (go_at_call 26; ((with_reducible refine (hp _).mono ?_); rintro e w3 ⟨rfl, rfl⟩)) | (go_at_call 21; ((with_reducible refine (hc _).mono ?_); rintro e w4 ⟨rfl, hg4⟩)) | (go_at_call 27; ((with_reducible refine (hz _).mono ?_); rintro e w3 ⟨rfl, rfl⟩)) | (go_at_call 28; ((with_reducible refine (ht _).mono ?_); rintro e w3 ⟨rfl, rfl⟩)) | (go_at_call 31; ((with_reducible refine (sa _).mono ?_); rintro e w3 ⟨rfl, rfl⟩)) | (go_at_call 31; ((with_reducible refine (sb _).mono ?_); rintro e w3 ⟨rfl, rfl⟩)) | (go_at_call 29; ((with_reducible refine (ra _).mono ?_); rintro e w3 ⟨rfl, rfl⟩)))
  go_ret
  exact ⟨ret_bool' rfl, grown_trans hg1 (grown_trans hg2 hg4)⟩
theorem walk (a : Int) (wa : (Lit.int .u64 a).wf = true) (b : Int) (wb : (Lit.int .u64 b).wf = true) (w : World) :
    Calls Try.prog 8 #[.int .u64 a, .int .u64 b] w fun e w' => e = .returned (.bool true) ∧ Below w.heap.size w w' := by
  have b0 := bounds_u64 wa
  have b1 := bounds_u64 wb
  obtain ⟨n, rfl⟩ := Int.eq_ofNat_of_zero_le b0.1
  obtain ⟨m, rfl⟩ := Int.eq_ofNat_of_zero_le b1.1
  exact (walk_core n m (by omega) (by omega) w).mono fun e w' ⟨h1, h2⟩ => ⟨h1, grown_below h2⟩

theorem laidOut : laidOutB Try.prog = true := by kernel_rfl
/-! ### The row's step: the guide's frame -/
theorem own : ownKnob Try.prog.godebug = none := by kernel_rfl
set_option maxRecDepth 100000 in
theorem lifted (os : Os) (started : os.Started) (H : Type) (enc : TypeId × Value → H) :
    ReturnsInHanded {} Try.checked os 8 .any (Rows.headNobodySpec.pre6 enc Try.prog Try.f8 Rows.headNobodyRow.domain false) (Rows.headNobodySpec.post enc Try.prog Try.f8 false true false false) := by
  refine returnsInHanded_of_change (C := Try.checked) own started (by kernel_rfl) Try.func8
    (ChangeSpec.witness6 (enc := enc) (C := Try.checked) false ⟨#[], #[.int .u64 0, .int .u64 0], []⟩ 8 (by kernel_rfl) (by kernel_rfl) (by kernel_rfl) (by kernel_rfl)) ?_
  intro W base args ds gs before hval0 hW hcnd _
  have hval : ∀ (j : Nat) t v, Try.f8.params[j]? = some t → args[j]? = some v → Value.okWide Try.prog W .any base t v := hval0
  have hW' := hW
  obtain ⟨p, q, hA0, hV, rfl, hfz, hnd⟩ := hW
  have hA : DataW.TrodAll enc Try.prog W 0 (fun _ => true) true Try.f8.params.toList args.toList ds p := hA0
  rw [Try.params8] at hA hval
  obtain ⟨v0, vs0, d0, ds0, p0, q0, hargs, rfl, rfl, h0, r0⟩ := trodAll_cons hA
  obtain ⟨v1, vs1, d1, ds1, p1, q1, rfl, rfl, rfl, h1, r1⟩ := trodAll_cons r0
  obtain ⟨rfl, rfl, rfl⟩ := trodAll_nil r1
  obtain rfl : args = #[v0, v1] := by cases args; simp_all
  obtain ⟨rfl, rfl⟩ := trodVars_none hV
  obtain ⟨a0, rfl, rfl, rfl, w0⟩ := open_int Try.underlying22 (hval 0 22 v0 rfl rfl) h0
  obtain ⟨a1, rfl, rfl, rfl, w1⟩ := open_int Try.underlying22 (hval 1 22 v1 rfl rfl) h1
  clear hA0 hval0
  refine (walk a0 w0 a1 w1 W).mono fun e W' ⟨he, bel⟩ => ?_
  subst he
  exact ⟨_, rfl, _, _, _, [], _, [], hW', trodAll_mk1 (shut_bool Try.underlying4 _), (trodAll_cons_mk (shut_int Try.underlying22 w0) (trodAll_cons_mk (shut_int Try.underlying22 w1) trodAll_mk0)), rfl, bel.frame _, fun h => by cases h⟩

theorem over : Rows.headNobodyRow.holds Try.pinned (OpenSpec.ofChange Rows.headNobodySpec) :=
  OpenClaim.holds_of_wide 8 Try.f8 rfl rfl rfl rfl rfl rfl rfl ⟨rfl, rfl, rfl, rfl, rfl⟩ rfl rfl rfl rfl rfl (by kernel_rfl) Try.func8 (by kernel_rfl)
    (of_decide_eq_true (by kernel_rfl)) (by unfold Func.isWrapper; first | (rw [if_pos (by decide +kernel)]; kernel_rfl) | (rw [if_neg (by decide +kernel)]; exact ⟨rfl, rfl⟩))
    (fun os started H enc _ => lifted os started H enc)

theorem proved : Rows.HeadNobodySaid :=
  over
#print axioms proved


end Go.Proofs.Ytojkebnjohanaaa.headNobody
