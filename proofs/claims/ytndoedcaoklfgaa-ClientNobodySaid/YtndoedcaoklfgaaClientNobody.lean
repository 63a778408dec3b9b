/-
  In nobody's segment there are no clients, and none comes. The statement ClientNobody, for every client's number, and every number; no condition.
-/
import Derived.Test.YtndoedcaoklfgaaCliF
import Derived.Test.YtndoedcaoklfgaaDeedO
namespace Go.Proofs.Ytndoedcaoklfgaa.clientNobody
open Go.ChangeShapes Go.WideShapes Go.ChangeAt Go.RowKit
set_option linter.unusedVariables false
set_option linter.unusedSimpArgs false

set_option maxRecDepth 100000 in
set_option maxHeartbeats 8000000 in
theorem core (c : Int) (off : Nat) (w : World) :
    Calls Try.prog 8 #[.int .i64 c, .int .u64 off] w fun e w' => e = .returned (.bool true) ∧ w.grownBy w' none := by
  have hpo := fun w => cpoint_nil c off w
  have hst := fun w => cstate_nil c w
  have hhe := fun w => chead_nil c w
  have hde := fun w => cdetach_nil c w
  have ha1 : ∀ w, Calls Try.prog 20 #[.pointer none, .int .u64 1] w fun e w' => ∃ a k, e = .returned (.slice a 0 k) ∧ w.grownBy w' none := fun w => (call_nil 1 w).mono fun e w' ⟨v, h1, h2, h3⟩ => by
    obtain ⟨a, k, g, hv, _⟩ := h2.addr
    exact ⟨a, k, by rw [h1, hv]; rfl, h3⟩
  have ha0 : ∀ w, Calls Try.prog 20 #[.pointer none, .int .u64 0] w fun e w' => ∃ a k, e = .returned (.slice a 8 k) ∧ w.grownBy w' none := fun w => (call_nil 0 w).mono fun e w' ⟨v, h1, h2, h3⟩ => by
    obtain ⟨a, k, g, hv, _⟩ := h2.addr
    exact ⟨a, k, by rw [h1, hv]; rfl, h3⟩
  by_cases h0 : c < 0
  · rw [if_neg (show ¬ thereP c by unfold thereP; omega)] at hde
    go_enter Try.func8, Try.ntmps8
    go_wp2_with (first | (go_at_call 9; ((with_reducible refine (awake8 _).mono ?_); rintro e w1 ⟨rfl, hg1⟩)) | (go_at_call 25; ((with_reducible refine (hpo _).mono ?_); rintro e w2 ⟨rfl, rfl⟩)) | (go_at_call 20; ((with_reducible refine (ha1 _).mono ?_); rintro e w3 ⟨a3, k3, rfl, hg3⟩)) | (go_at_call 14; ((with_reducible refine (hst _).mono ?_); rintro e w4 ⟨rfl, rfl⟩)) | (go_at_call 16; ((with_reducible refine (hhe _).mono ?_); rintro e w5 ⟨rfl, rfl⟩)) | (go_at_call 20; ((with_reducible refine (ha0 _).mono ?_); rintro e w6 ⟨a6, k6, rfl, hg6⟩)) | (go_at_call 26; ((with_reducible refine (hde _).mono ?_); rintro e w7 ⟨rfl, rfl⟩)))
    go_ret
    exact ⟨ret_bool' (by simp), grown_trans hg1 (grown_trans hg3 hg6)⟩
  · by_cases h7 : 7 < c
    · rw [if_neg (show ¬ thereP c by unfold thereP; omega)] at hde
      go_enter Try.func8, Try.ntmps8
      go_wp2_with (first | (go_at_call 9; ((with_reducible refine (awake8 _).mono ?_); rintro e w1 ⟨rfl, hg1⟩)) | (go_at_call 25; ((with_reducible refine (hpo _).mono ?_); rintro e w2 ⟨rfl, rfl⟩)) | (go_at_call 20; ((with_reducible refine (ha1 _).mono ?_); rintro e w3 ⟨a3, k3, rfl, hg3⟩)) | (go_at_call 14; ((with_reducible refine (hst _).mono ?_); rintro e w4 ⟨rfl, rfl⟩)) | (go_at_call 16; ((with_reducible refine (hhe _).mono ?_); rintro e w5 ⟨rfl, rfl⟩)) | (go_at_call 20; ((with_reducible refine (ha0 _).mono ?_); rintro e w6 ⟨a6, k6, rfl, hg6⟩)) | (go_at_call 26; ((with_reducible refine (hde _).mono ?_); rintro e w7 ⟨rfl, rfl⟩)))
      go_ret
      exact ⟨ret_bool' (by simp), grown_trans hg1 (grown_trans hg3 hg6)⟩
    · rw [if_pos (show thereP c by unfold thereP; omega)] at hde
      go_enter Try.func8, Try.ntmps8
      go_wp2_with (first | (go_at_call 9; ((with_reducible refine (awake8 _).mono ?_); rintro e w1 ⟨rfl, hg1⟩)) | (go_at_call 25; ((with_reducible refine (hpo _).mono ?_); rintro e w2 ⟨rfl, rfl⟩)) | (go_at_call 20; ((with_reducible refine (ha1 _).mono ?_); rintro e w3 ⟨a3, k3, rfl, hg3⟩)) | (go_at_call 14; ((with_reducible refine (hst _).mono ?_); rintro e w4 ⟨rfl, rfl⟩)) | (go_at_call 16; ((with_reducible refine (hhe _).mono ?_); rintro e w5 ⟨rfl, rfl⟩)) | (go_at_call 20; ((with_reducible refine (ha0 _).mono ?_); rintro e w6 ⟨a6, k6, rfl, hg6⟩)) | (go_at_call 26; ((with_reducible refine (hde _).mono ?_); rintro e w7 ⟨rfl, rfl⟩)))
      go_ret
      exact ⟨ret_bool' (by simp; omega), grown_trans hg1 (grown_trans hg3 hg6)⟩
theorem walk (a : Int) (_ : (Lit.int .i64 a).wf = true) (b : Int) (wb : (Lit.int .u64 b).wf = true) (w : World) :
    Calls Try.prog 8 #[.int .i64 a, .int .u64 b] w fun e w' => e = .returned (.bool true) ∧ Below w.heap.size w w' := by
  have b0 := bounds_u64 wb
  obtain ⟨n, rfl⟩ := Int.eq_ofNat_of_zero_le b0.1
  exact (core a n w).mono fun e w' ⟨h1, h2⟩ => ⟨h1, grown_below h2⟩

theorem laidOut : laidOutB Try.prog = true := by kernel_rfl
/-! ### The row's step: the guide's frame -/
theorem own : ownKnob Try.prog.godebug = none := by kernel_rfl
set_option maxRecDepth 100000 in
theorem lifted (os : Os) (started : os.Started) (H : Type) (enc : TypeId × Value → H) :
    ReturnsInHanded {} Try.checked os 8 .any (Rows.clientNobodySpec.pre6 enc Try.prog Try.f8 Rows.clientNobodyRow.domain false) (Rows.clientNobodySpec.post enc Try.prog Try.f8 false true false false) := by
  refine returnsInHanded_of_change (C := Try.checked) own started (by kernel_rfl) Try.func8
    (ChangeSpec.witness6 (enc := enc) (C := Try.checked) false ⟨#[], #[.int .i64 0, .int .u64 0], []⟩ 8 (by kernel_rfl) (by kernel_rfl) (by kernel_rfl) (by kernel_rfl)) ?_
  intro W base args ds gs before hval0 hW hcnd _
  have hval : ∀ (j : Nat) t v, Try.f8.params[j]? = some t → args[j]? = some v → Value.okWide Try.prog W .any base t v := hval0
  have hW' := hW
  obtain ⟨p, q, hA0, hV, rfl, hfz, hnd⟩ := hW
  have hA : DataW.TrodAll enc Try.prog W 0 (fun _ => true) true Try.f8.params.toList args.toList ds p := hA0
  rw [Try.params8] at hA hval
  obtain ⟨v0, vs0, d0, ds0, p0, q0, hargs, rfl, rfl, h0, r0⟩ := trodAll_cons hA
  obtain ⟨v1, vs1, d1, ds1, p1, q1, rfl, rfl, rfl, h1, r1⟩ := trodAll_cons r0
  obtain ⟨rfl, rfl, rfl⟩ := trodAll_nil r1
  obtain rfl : args = #[v0, v1] := by cases args; simp_all
  obtain ⟨rfl, rfl⟩ := trodVars_none hV
  obtain ⟨a0, rfl, rfl, rfl, w0⟩ := open_int Try.underlying3 (hval 0 3 v0 rfl rfl) h0
  obtain ⟨a1, rfl, rfl, rfl, w1⟩ := open_int Try.underlying24 (hval 1 24 v1 rfl rfl) h1
  clear hA0 hval0
  refine (walk a0 w0 a1 w1 W).mono fun e W' ⟨he, bel⟩ => ?_
  subst he
  exact ⟨_, rfl, _, _, _, [], _, [], hW', trodAll_mk1 (shut_bool Try.underlying4 _), (trodAll_cons_mk (shut_int Try.underlying3 w0) (trodAll_cons_mk (shut_int Try.underlying24 w1) trodAll_mk0)), rfl, bel.frame _, fun h => by cases h⟩

theorem over : Rows.clientNobodyRow.holds Try.pinned (OpenSpec.ofChange Rows.clientNobodySpec) :=
  OpenClaim.holds_of_wide 8 Try.f8 rfl rfl rfl rfl rfl rfl rfl ⟨rfl, rfl, rfl, rfl, rfl⟩ rfl rfl rfl rfl rfl (by kernel_rfl) Try.func8 (by kernel_rfl)
    (of_decide_eq_true (by kernel_rfl)) (by unfold Func.isWrapper; first | (rw [if_pos (by decide +kernel)]; kernel_rfl) | (rw [if_neg (by decide +kernel)]; exact ⟨rfl, rfl⟩))
    (fun os started H enc _ => lifted os started H enc)

theorem proved : Rows.ClientNobodySaid :=
  over
#print axioms proved


end Go.Proofs.Ytndoedcaoklfgaa.clientNobody
