/-
  Where the heap ends, and the tree begins, is as it was said last; with a size that fits it is still checked. The statement HeadMoves, for every three numbers; no condition.
-/
import Derived.Test.YtojkebnjohanaaaHeadG
import Derived.Test.YtojkebnjohanaaaPutO
namespace Go.Proofs.Ytojkebnjohanaaa.headMoves
open Go.ChangeShapes Go.WideShapes Go.ChangeAt Go.RowKit
set_option linter.unusedVariables false
set_option linter.unusedSimpArgs false

theorem core_no (n m r : Nat) (h : ¬ fitsP n 4800) (w : World) :
    Calls Try.prog 7 #[.int .u64 n, .int .u64 m, .int .u64 r] w fun e w' => e = .returned (.bool true) ∧ w.grownBy w' none := by
  have hf : ∀ w, Calls Try.prog 17 #[.int .u64 n, .int .u64 4800] w _ := fun w => rfits_any n 4800 w
  rw [decide_eq_false h] at hf
  go_enter Try.func7, Try.ntmps7
  go_wp2_with (first | (go_at_call 9; ((with_reducible refine (awake4 _).mono ?_); rintro e w1 ⟨rfl, hg1⟩)) | (go_at_call 10; ((with_reducible refine (new48 _).mono ?_); rintro e w2 ⟨rfl, hg2, hs2⟩)) | (go_at_call 17; ((with_reducible refine (hf _).mono ?_); rintro e w3 ⟨rfl, rfl⟩)))
  go_ret
  exact ⟨rfl, grown_trans hg1 hg2⟩
set_option maxHeartbeats 2000000 in
theorem core_yes (n m r : Nat) (hn : n < 18446744073709551616) (hm : m < 18446744073709551616) (hr : r < 18446744073709551616) (h : fitsP n 4800) (w : World) :
    Calls Try.prog 7 #[.int .u64 n, .int .u64 m, .int .u64 r] w fun e w' => e = .returned (.bool true) ∧ w.grownBy w' none := by
  have hf : ∀ w, Calls Try.prog 17 #[.int .u64 n, .int .u64 4800] w _ := fun w => rfits_any n 4800 w
  rw [decide_eq_true h] at hf
  have hf2 : ∀ w, Calls Try.prog 17 #[.int .u64 m, .int .u64 4800] w _ := fun w => rfits_any m 4800 w
  have hfm := fun (w : World) (B D : Nat) (hs : IsSeg w B D (List.replicate 600 0)) => format48 hs h
  have hlen : (fmtW 600 n).length = 600 := fmtW_len _ _
  have h0 : getW (fmtW 600 n) 0 = 7161130718081542961 := fmt48_0 h
  have h8 : getW (fmtW 600 n) 8 = 1 := fmt48_8 h
  obtain ⟨ws, hws⟩ : ∃ ws, fmtW 600 n = ws := ⟨_, rfl⟩
  rw [hws] at hfm hlen h0 h8
  clear hws
  have s16 : stands ws 16 := ⟨by decide, by omega⟩
  have s32 : stands ws 32 := ⟨by decide, by omega⟩
  have s40 : stands ws 40 := ⟨by decide, by omega⟩
  have hrz := fun (w : World) (T M : Nat) (R : Option Nat) (B D : Nat) (ht : Thinks w T M R B D ws []) => hresize_any ht m hm
  have hsm := fun w => rsum_any m hm w
  obtain ⟨sm, es⟩ : ∃ x, sumN m = x := ⟨_, rfl⟩
  rw [es] at hrz
  simp only [es] at hsm
  have e1 : txStore ws (txStore ws [] 16 m) 40 (sm) = [(16, m), (40, sm)] := by unfold txStore; rw [if_pos s16, if_pos s40]; rfl
  rw [e1] at hrz
  have hpl := fun (w : World) (T M : Nat) (R : Option Nat) (B D : Nat) (ht : Thinks w T M R B D ws [(16, m), (40, sm)]) => hplant_any ht r hr
  have e2 : txStore ws [(16, m), (40, sm)] 32 r = [(16, m), (40, sm), (32, r)] := by unfold txStore; rw [if_pos s32]; rfl
  rw [e2] at hpl
  have v16 : txSee ws [(16, m), (40, sm), (32, r)] 16 = m := rfl
  have v32 : txSee ws [(16, m), (40, sm), (32, r)] 32 = r := rfl
  have v40 : txSee ws [(16, m), (40, sm), (32, r)] 40 = sm := rfl
  have v0 : txSee ws [(16, m), (40, sm), (32, r)] 0 = 7161130718081542961 := h0
  have v8 : txSee ws [(16, m), (40, sm), (32, r)] 8 = 1 := h8
  have hck : chkN ws [(16, m), (40, sm), (32, r)] = if fitsP m 4800 then 0 else 12 := by
    by_cases hc : fitsP m 4800
    · rw [if_pos hc]
      refine if_pos ?_
      unfold chkP
      rw [v16, v0, v8, v40, hlen, es]
      exact ⟨hc, rfl, rfl, rfl⟩
    · rw [if_neg hc]
      refine if_neg ?_
      unfold chkP
      rw [v16, hlen]
      exact fun hh => hc hh.1
  clear e1 e2 s16 s32 s40 h0 h8 v0 v8 hlen
  obtain ⟨l, el⟩ : ∃ l, [(16, m), (40, sm), (32, r)] = l := ⟨_, rfl⟩
  have hll : l.length = 3 := by rw [← el]; rfl
  rw [el] at hpl hck v16 v32 v40
  have hsz := fun (w : World) (T M : Nat) (R : Option Nat) (B D : Nat) (ht : Thinks w T M R B D ws l) => hsize_any ht
  have hro := fun (w : World) (T M : Nat) (R : Option Nat) (B D : Nat) (ht : Thinks w T M R B D ws l) => hroot_any ht
  have hch := fun (w : World) (T M : Nat) (R : Option Nat) (B D : Nat) (ht : Thinks w T M R B D ws l) => hcheck_any ht
  have hlo : ∀ (w : World) (T M : Nat) (R : Option Nat) (B D : Nat) (ht : Thinks w T M R B D ws l), Calls Try.prog 24 #[.pointer (some ⟨T, 0, none⟩), .int .u64 40] w _ := fun (w : World) (T M : Nat) (R : Option Nat) (B D : Nat) (ht : Thinks w T M R B D ws l) => txload_any ht 40 (by decide)
  rw [v16] at hsz
  rw [v32] at hro
  rw [v40] at hlo
  rw [hck] at hch
  have hpu := fun (w : World) (T M : Nat) (R : Option Nat) (B D : Nat) (ht : Thinks w T M R B D ws l) => txputs_any ht
  clear v16 v32 v40 es el hck
  by_cases hc : fitsP m 4800
  · rw [decide_eq_true hc] at hf2
    rw [if_pos hc] at hch
    go_enter Try.func7, Try.ntmps7
    go_wp2_with (first | (go_at_call 9; ((with_reducible refine (awake4 _).mono ?_); rintro e w1 ⟨rfl, hg1⟩)) | (go_at_call 10; ((with_reducible refine (new48 _).mono ?_); rintro e w2 ⟨rfl, hg2, hs2⟩)) | (go_at_call 17; ((with_reducible refine (hf _).mono ?_); rintro e w3 ⟨rfl, rfl⟩)) | (go_at_call 11; ((with_reducible refine (hfm _ _ _ hs2).mono ?_); rintro e w4 ⟨rfl, hg4, hs4⟩)) | (go_at_call 19; ((with_reducible refine (txnew_yes hs4).mono ?_); rintro e w5 ⟨rfl, hg5, ht5⟩; have X5 := Txs.first hg1 hg2 hs2 hg4 hg5 ht5)) | (go_at_call 25; ((with_reducible refine (hrz _ _ _ _ _ _ X5.tx).mono ?_); rintro e w6 ⟨rfl, ht6⟩; obtain ⟨R6, X6, _⟩ := X5.step ht6)) | (go_at_call 26; ((with_reducible refine (hpl _ _ _ _ _ _ X6.tx).mono ?_); rintro e w7 ⟨rfl, ht7⟩; obtain ⟨R7, X7, _⟩ := X6.step ht7)) | (go_at_call 17; ((with_reducible refine (hf2 _).mono ?_); rintro e w8 ⟨rfl, rfl⟩)) | (go_at_call 27; ((with_reducible refine (hsz _ _ _ _ _ _ X7.tx).mono ?_); rintro e w9 ⟨rfl, hg9⟩; have X9 := X7.later hg9)) | (go_at_call 28; ((with_reducible refine (hro _ _ _ _ _ _ X9.tx).mono ?_); rintro e w10 ⟨rfl, hg10⟩; have X10 := X9.later hg10)) | (go_at_call 21; ((with_reducible refine (hch _ _ _ _ _ _ X10.tx).mono ?_); rintro e w11 ⟨rfl, hg11⟩; have X11 := X10.later hg11)) | (go_at_call 24; ((with_reducible refine (hlo _ _ _ _ _ _ X11.tx).mono ?_); rintro e w12 ⟨rfl, hg12⟩; have X12 := X11.later hg12)) | (go_at_call 29; ((with_reducible refine (hsm _).mono ?_); rintro e w8 ⟨rfl, rfl⟩)) | (go_at_call 30; ((with_reducible refine (hpu _ _ _ _ _ _ X12.tx).mono ?_); rintro e w13 ⟨v13, rfl, ho13, hg13⟩; obtain ⟨a13, c13, _, hv13, _⟩ := ho13.addr; rw [hll] at hv13; subst hv13)))
    go_ret
    exact ⟨ret_bool' (by simp), (X12.later hg13).since⟩
  · rw [decide_eq_false hc] at hf2
    rw [if_neg hc] at hch
    go_enter Try.func7, Try.ntmps7
    go_wp2_with (first | (go_at_call 9; ((with_reducible refine (awake4 _).mono ?_); rintro e w1 ⟨rfl, hg1⟩)) | (go_at_call 10; ((with_reducible refine (new48 _).mono ?_); rintro e w2 ⟨rfl, hg2, hs2⟩)) | (go_at_call 17; ((with_reducible refine (hf _).mono ?_); rintro e w3 ⟨rfl, rfl⟩)) | (go_at_call 11; ((with_reducible refine (hfm _ _ _ hs2).mono ?_); rintro e w4 ⟨rfl, hg4, hs4⟩)) | (go_at_call 19; ((with_reducible refine (txnew_yes hs4).mono ?_); rintro e w5 ⟨rfl, hg5, ht5⟩; have X5 := Txs.first hg1 hg2 hs2 hg4 hg5 ht5)) | (go_at_call 25; ((with_reducible refine (hrz _ _ _ _ _ _ X5.tx).mono ?_); rintro e w6 ⟨rfl, ht6⟩; obtain ⟨R6, X6, _⟩ := X5.step ht6)) | (go_at_call 26; ((with_reducible refine (hpl _ _ _ _ _ _ X6.tx).mono ?_); rintro e w7 ⟨rfl, ht7⟩; obtain ⟨R7, X7, _⟩ := X6.step ht7)) | (go_at_call 17; ((with_reducible refine (hf2 _).mono ?_); rintro e w8 ⟨rfl, rfl⟩)) | (go_at_call 27; ((with_reducible refine (hsz _ _ _ _ _ _ X7.tx).mono ?_); rintro e w9 ⟨rfl, hg9⟩; have X9 := X7.later hg9)) | (go_at_call 28; ((with_reducible refine (hro _ _ _ _ _ _ X9.tx).mono ?_); rintro e w10 ⟨rfl, hg10⟩; have X10 := X9.later hg10)) | (go_at_call 21; ((with_reducible refine (hch _ _ _ _ _ _ X10.tx).mono ?_); rintro e w11 ⟨rfl, hg11⟩; have X11 := X10.later hg11)) | (go_at_call 24; ((with_reducible refine (hlo _ _ _ _ _ _ X11.tx).mono ?_); rintro e w12 ⟨rfl, hg12⟩; have X12 := X11.later hg12)) | (go_at_call 29; ((with_reducible refine (hsm _).mono ?_); rintro e w8 ⟨rfl, rfl⟩)) | (go_at_call 30; ((with_reducible refine (hpu _ _ _ _ _ _ X12.tx).mono ?_); rintro e w13 ⟨v13, rfl, ho13, hg13⟩; obtain ⟨a13, c13, _, hv13, _⟩ := ho13.addr; rw [hll] at hv13; subst hv13)))
    go_ret
    exact ⟨ret_bool' (by simp), (X12.later hg13).since⟩
theorem walk (a : Int) (wa : (Lit.int .u64 a).wf = true) (b : Int) (wb : (Lit.int .u64 b).wf = true) (c : Int) (wc : (Lit.int .u64 c).wf = true) (w : World) :
    Calls Try.prog 7 #[.int .u64 a, .int .u64 b, .int .u64 c] w fun e w' => e = .returned (.bool true) ∧ Below w.heap.size w w' := by
  have b0 := bounds_u64 wa
  have b1 := bounds_u64 wb
  have b2 := bounds_u64 wc
  obtain ⟨n, rfl⟩ := Int.eq_ofNat_of_zero_le b0.1
  obtain ⟨m, rfl⟩ := Int.eq_ofNat_of_zero_le b1.1
  obtain ⟨r, rfl⟩ := Int.eq_ofNat_of_zero_le b2.1
  by_cases h : fitsP n 4800
  · exact (core_yes n m r (by omega) (by omega) (by omega) h w).mono fun e w' ⟨h1, h2⟩ => ⟨h1, grown_below h2⟩
  · exact (core_no n m r h w).mono fun e w' ⟨h1, h2⟩ => ⟨h1, grown_below h2⟩

theorem laidOut : laidOutB Try.prog = true := by kernel_rfl
/-! ### The row's step: the guide's frame -/
theorem own : ownKnob Try.prog.godebug = none := by kernel_rfl
set_option maxRecDepth 100000 in
theorem lifted (os : Os) (started : os.Started) (H : Type) (enc : TypeId × Value → H) :
    ReturnsInHanded {} Try.checked os 7 .any (Rows.headMovesSpec.pre6 enc Try.prog Try.f7 Rows.headMovesRow.domain false) (Rows.headMovesSpec.post enc Try.prog Try.f7 false true false false) := by
  refine returnsInHanded_of_change (C := Try.checked) own started (by kernel_rfl) Try.func7
    (ChangeSpec.witness6 (enc := enc) (C := Try.checked) false ⟨#[], #[.int .u64 0, .int .u64 0, .int .u64 0], []⟩ 8 (by kernel_rfl) (by kernel_rfl) (by kernel_rfl) (by kernel_rfl)) ?_
  intro W base args ds gs before hval0 hW hcnd _
  have hval : ∀ (j : Nat) t v, Try.f7.params[j]? = some t → args[j]? = some v → Value.okWide Try.prog W .any base t v := hval0
  have hW' := hW
  obtain ⟨p, q, hA0, hV, rfl, hfz, hnd⟩ := hW
  have hA : DataW.TrodAll enc Try.prog W 0 (fun _ => true) true Try.f7.params.toList args.toList ds p := hA0
  rw [Try.params7] at hA hval
  obtain ⟨v0, vs0, d0, ds0, p0, q0, hargs, rfl, rfl, h0, r0⟩ := trodAll_cons hA
  obtain ⟨v1, vs1, d1, ds1, p1, q1, rfl, rfl, rfl, h1, r1⟩ := trodAll_cons r0
  obtain ⟨v2, vs2, d2, ds2, p2, q2, rfl, rfl, rfl, h2, r2⟩ := trodAll_cons r1
  obtain ⟨rfl, rfl, rfl⟩ := trodAll_nil r2
  obtain rfl : args = #[v0, v1, v2] := by cases args; simp_all
  obtain ⟨rfl, rfl⟩ := trodVars_none hV
  obtain ⟨a0, rfl, rfl, rfl, w0⟩ := open_int Try.underlying22 (hval 0 22 v0 rfl rfl) h0
  obtain ⟨a1, rfl, rfl, rfl, w1⟩ := open_int Try.underlying22 (hval 1 22 v1 rfl rfl) h1
  obtain ⟨a2, rfl, rfl, rfl, w2⟩ := open_int Try.underlying22 (hval 2 22 v2 rfl rfl) h2
  clear hA0 hval0
  refine (walk a0 w0 a1 w1 a2 w2 W).mono fun e W' ⟨he, bel⟩ => ?_
  subst he
  exact ⟨_, rfl, _, _, _, [], _, [], hW', trodAll_mk1 (shut_bool Try.underlying4 _), (trodAll_cons_mk (shut_int Try.underlying22 w0) (trodAll_cons_mk (shut_int Try.underlying22 w1) (trodAll_cons_mk (shut_int Try.underlying22 w2) trodAll_mk0))), rfl, bel.frame _, fun h => by cases h⟩

theorem over : Rows.headMovesRow.holds Try.pinned (OpenSpec.ofChange Rows.headMovesSpec) :=
  OpenClaim.holds_of_wide 7 Try.f7 rfl rfl rfl rfl rfl rfl rfl ⟨rfl, rfl, rfl, rfl, rfl⟩ rfl rfl rfl rfl rfl (by kernel_rfl) Try.func7 (by kernel_rfl)
    (of_decide_eq_true (by kernel_rfl)) (by unfold Func.isWrapper; first | (rw [if_pos (by decide +kernel)]; kernel_rfl) | (rw [if_neg (by decide +kernel)]; exact ⟨rfl, rfl⟩))
    (fun os started H enc _ => lifted os started H enc)

theorem proved : Rows.HeadMovesSaid :=
  over
#print axioms proved


end Go.Proofs.Ytojkebnjohanaaa.headMoves
