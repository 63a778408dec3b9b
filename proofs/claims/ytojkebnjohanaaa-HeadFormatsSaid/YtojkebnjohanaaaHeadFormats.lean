/-
  A segment of any size, formatted for any number of bytes: all its words. The statement HeadFormats, for every two numbers; no condition.
-/
import Derived.Test.YtojkebnjohanaaaHeadF
import Derived.Test.YtojkebnjohanaaaPutO
namespace Go.Proofs.Ytojkebnjohanaaa.headFormats
open Go.ChangeShapes Go.WideShapes Go.ChangeAt Go.RowKit
set_option linter.unusedVariables false
set_option linter.unusedSimpArgs false

theorem core_large (al n : Nat) (h : 16000 < al) (w : World) :
    Calls Try.prog 3 #[.int .u64 al, .int .u64 n] w fun e w' => e = .returned (.bool true) ∧ w.grownBy w' none := by
  have h' : (16000 : Int) < al := by omega
  go_enter Try.func3, Try.ntmps3
  go_wp2_with (first | (go_at_call 9; ((with_reducible refine (awake4 _).mono ?_); rintro e w1 ⟨rfl, hg1⟩)))
  go_ret
  exact ⟨rfl, hg1⟩
theorem core_not (al n : Nat) (h : al ≤ 16000) (hm : ¬ may al) (w : World) :
    Calls Try.prog 3 #[.int .u64 al, .int .u64 n] w fun e w' => e = .returned (.bool true) ∧ w.grownBy w' none := by
  have h' : ¬ (16000 : Int) < al := by omega
  have hnew := fun w => new_no al (by omega) hm w
  have hrf := fun w => rformat_not al n (by omega) hm w
  have hfm := fun w => format_nil n w
  have hnums : ∀ w, Calls Try.prog 13 #[.slice none 0 0, .slice none 0 0] w fun e w' => e = .returned (.bool true) ∧ w.grownBy w' none := fun w => nums_same (l := []) (base := 0) (base' := 0) (World.ownsRow_nil _ _ _ _) (World.ownsRow_nil _ _ _ _) (by decide)
  go_enter Try.func3, Try.ntmps3
  go_wp2_with (first | (go_at_call 9; ((with_reducible refine (awake4 _).mono ?_); rintro e w1 ⟨rfl, hg1⟩)) | (go_at_call 10; ((with_reducible refine (hnew _).mono ?_); rintro e w2 ⟨rfl, rfl⟩)) | (go_at_call 11; ((with_reducible refine (hfm _).mono ?_); rintro e w2 ⟨rfl, hg2⟩)) | (go_at_call 12; ((with_reducible refine (hrf _).mono ?_); rintro e w3 ⟨rfl, rfl⟩)) | (go_at_call 14; ((with_reducible refine (words4_nil _).mono ?_); rintro e w4 ⟨rfl, hg4⟩)) | (go_at_call 13; ((with_reducible refine (hnums _).mono ?_); rintro e w5 ⟨rfl, hg5⟩)))
  go_ret
  exact ⟨rfl, grown_trans hg1 (grown_trans hg2 (grown_trans hg4 hg5))⟩
theorem core_yes (K n : Nat) (h : 8 * K ≤ 16000) (hK : 1 ≤ K) (hn : n < 18446744073709551616) (w : World) :
    Calls Try.prog 3 #[.int .u64 (8 * K : Nat), .int .u64 n] w fun e w' => e = .returned (.bool true) ∧ w.grownBy w' none := by
  have hnew := fun w => new_yes K hK (by omega) w
  have hlen : (List.replicate K 0).length = K := List.length_replicate
  obtain ⟨W, c, hW, hfm, hrf⟩ : ∃ (W : List Nat) (c : Nat), W.length = K ∧
      (∀ (w : World) (B D : Nat), IsSeg w B D (List.replicate K 0) → Calls Try.prog 11 #[.pointer (some ⟨B, 0, none⟩), .int .u64 n] w fun e w' => e = .returned (.int .i64 c) ∧ w.grownBy w' (some D) ∧ IsSeg w' B D W) ∧
      (∀ (w : World), Calls Try.prog 12 #[.int .u64 (8 * K : Nat), .int .u64 n] w fun e w' => ∃ v, e = .returned (.tuple #[v, .int .i64 c]) ∧ w.grownBy w' none ∧ OwnW w' w.heap.size v W) := by
    by_cases hf : fitsP n (8 * K)
    · refine ⟨fmtW K n, 0, fmtW_len _ _, fun w B D hs => ?_, fun w => rformat_yes K n (by omega) hf w⟩
      have := format_any hs n hn
      rw [(fmt_yes (ws := List.replicate K 0) (by rw [hlen]; exact hf)).1, (fmt_yes (ws := List.replicate K 0) (by rw [hlen]; exact hf)).2, hlen] at this
      exact this
    · refine ⟨List.replicate K 0, 2, hlen, fun w B D hs => ?_, fun w => rformat_no K n hK (by omega) hf w⟩
      have := format_any hs n hn
      rw [(fmt_no (ws := List.replicate K 0) (by rw [hlen]; exact hf)).1, (fmt_no (ws := List.replicate K 0) (by rw [hlen]; exact hf)).2] at this
      exact this
  obtain ⟨al, ha⟩ : ∃ al, 8 * K = al := ⟨_, rfl⟩
  rw [ha] at hrf ⊢
  simp only [ha] at hnew
  have h' : ¬ (16000 : Int) < al := by omega
  clear hlen ha
  have hwd := fun (w : World) (B D : Nat) (hs : IsSeg w B D W) => words4_any hs (by omega)
  have hWl : W.length ≤ 1000000 := by omega
  clear hW
  go_enter Try.func3, Try.ntmps3
  go_wp2_with (first | (go_at_call 9; ((with_reducible refine (awake4 _).mono ?_); rintro e w1 ⟨rfl, hg1⟩)) | (go_at_call 10; ((with_reducible refine (hnew _).mono ?_); rintro e w2 ⟨rfl, hg2, hs2⟩)) | (go_at_call 11; ((with_reducible refine (hfm _ _ _ hs2).mono ?_); rintro e w3 ⟨rfl, hg3, hs3⟩; have hg13 := grown_trans hg1 (grown_new (grown_trans (grown_any hg2 _) hg3) (Nat.le_refl _)))) | (go_at_call 12; ((with_reducible refine (hrf _).mono ?_); rintro e w4 ⟨v4, rfl, hg4, ho4⟩; have hs4 := hs3.later hg4; obtain ⟨a4, c4, hv4⟩ := ho4.slice; subst hv4)) | (go_at_call 14; ((with_reducible refine (hwd _ _ _ hs4).mono ?_); rintro e w5 ⟨v5, rfl, ho5, hg5⟩; have ho45 := ho4.later hg5; obtain ⟨a5, c5, hv5⟩ := ho5.slice; subst hv5)) | (go_at_call 13; ((with_reducible refine (nums_same ho5 ho45 hWl).mono ?_); rintro e w6 ⟨rfl, hg6⟩)))
  go_ret
  exact ⟨ret_bool' (by simp), grown_trans hg13 (grown_trans hg4 (grown_trans hg5 hg6))⟩
theorem walk (a : Int) (wa : (Lit.int .u64 a).wf = true) (b : Int) (wb : (Lit.int .u64 b).wf = true) (w : World) :
    Calls Try.prog 3 #[.int .u64 a, .int .u64 b] w fun e w' => e = .returned (.bool true) ∧ Below w.heap.size w w' := by
  have b0 := bounds_u64 wa
  have b1 := bounds_u64 wb
  obtain ⟨al, rfl⟩ := Int.eq_ofNat_of_zero_le b0.1
  obtain ⟨n, rfl⟩ := Int.eq_ofNat_of_zero_le b1.1
  have core : Calls Try.prog 3 #[.int .u64 al, .int .u64 n] w fun e w' => e = .returned (.bool true) ∧ w.grownBy w' none := by
    by_cases h1 : 16000 < al
    · exact core_large al n h1 w
    · by_cases hm : may al
      · obtain ⟨K, rfl⟩ : ∃ K, al = 8 * K := ⟨al / 8, by have := hm.2.1; omega⟩
        exact core_yes K n (by omega) (by have := hm.1; omega) (by omega) w
      · exact core_not al n (by omega) hm w
  exact core.mono fun e w' ⟨h1, h2⟩ => ⟨h1, grown_below h2⟩

theorem laidOut : laidOutB Try.prog = true := by kernel_rfl
/-! ### The row's step: the guide's frame -/
theorem own : ownKnob Try.prog.godebug = none := by kernel_rfl
set_option maxRecDepth 100000 in
theorem lifted (os : Os) (started : os.Started) (H : Type) (enc : TypeId × Value → H) :
    ReturnsInHanded {} Try.checked os 3 .any (Rows.headFormatsSpec.pre6 enc Try.prog Try.f3 Rows.headFormatsRow.domain false) (Rows.headFormatsSpec.post enc Try.prog Try.f3 false true false false) := by
  refine returnsInHanded_of_change (C := Try.checked) own started (by kernel_rfl) Try.func3
    (ChangeSpec.witness6 (enc := enc) (C := Try.checked) false ⟨#[], #[.int .u64 0, .int .u64 0], []⟩ 8 (by kernel_rfl) (by kernel_rfl) (by kernel_rfl) (by kernel_rfl)) ?_
  intro W base args ds gs before hval0 hW hcnd _
  have hval : ∀ (j : Nat) t v, Try.f3.params[j]? = some t → args[j]? = some v → Value.okWide Try.prog W .any base t v := hval0
  have hW' := hW
  obtain ⟨p, q, hA0, hV, rfl, hfz, hnd⟩ := hW
  have hA : DataW.TrodAll enc Try.prog W 0 (fun _ => true) true Try.f3.params.toList args.toList ds p := hA0
  rw [Try.params3] at hA hval
  obtain ⟨v0, vs0, d0, ds0, p0, q0, hargs, rfl, rfl, h0, r0⟩ := trodAll_cons hA
  obtain ⟨v1, vs1, d1, ds1, p1, q1, rfl, rfl, rfl, h1, r1⟩ := trodAll_cons r0
  obtain ⟨rfl, rfl, rfl⟩ := trodAll_nil r1
  obtain rfl : args = #[v0, v1] := by cases args; simp_all
  obtain ⟨rfl, rfl⟩ := trodVars_none hV
  obtain ⟨a0, rfl, rfl, rfl, w0⟩ := open_int Try.underlying22 (hval 0 22 v0 rfl rfl) h0
  obtain ⟨a1, rfl, rfl, rfl, w1⟩ := open_int Try.underlying22 (hval 1 22 v1 rfl rfl) h1
  clear hA0 hval0
  refine (walk a0 w0 a1 w1 W).mono fun e W' ⟨he, bel⟩ => ?_
  subst he
  exact ⟨_, rfl, _, _, _, [], _, [], hW', trodAll_mk1 (shut_bool Try.underlying4 _), (trodAll_cons_mk (shut_int Try.underlying22 w0) (trodAll_cons_mk (shut_int Try.underlying22 w1) trodAll_mk0)), rfl, bel.frame _, fun h => by cases h⟩

theorem over : Rows.headFormatsRow.holds Try.pinned (OpenSpec.ofChange Rows.headFormatsSpec) :=
  OpenClaim.holds_of_wide 3 Try.f3 rfl rfl rfl rfl rfl rfl rfl ⟨rfl, rfl, rfl, rfl, rfl⟩ rfl rfl rfl rfl rfl (by kernel_rfl) Try.func3 (by kernel_rfl)
    (of_decide_eq_true (by kernel_rfl)) (by unfold Func.isWrapper; first | (rw [if_pos (by decide +kernel)]; kernel_rfl) | (rw [if_neg (by decide +kernel)]; exact ⟨rfl, rfl⟩))
    (fun os started H enc _ => lifted os started H enc)

theorem proved : Rows.HeadFormatsSaid :=
  over
#print axioms proved


end Go.Proofs.Ytojkebnjohanaaa.headFormats
