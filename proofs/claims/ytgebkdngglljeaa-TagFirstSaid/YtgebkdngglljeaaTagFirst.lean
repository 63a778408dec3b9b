/-
  A formatted segment's first block is free, and as large as the heap; nobody's has none. The statement TagFirst, for every number; no condition.
-/
import Derived.Test.YtgebkdngglljeaaTagF
import Derived.Test.YtgebkdngglljeaaTagO
namespace Go.Proofs.Ytgebkdngglljeaa.tagFirst
open Go.ChangeShapes Go.WideShapes Go.ChangeAt Go.RowKit
set_option linter.unusedVariables false
set_option linter.unusedSimpArgs false

/-- the first block -/
theorem first_yes {n : Nat} (h : fitsP n 4800) : rdS (txSee (fmt48 n) []) 3776 = n - 3776 ∧ rdU (txSee (fmt48 n) []) 3776 = false ∧ rdO (txSee (fmt48 n) []) 3776 = 0 ∧ rdE (txSee (fmt48 n) []) 3776 = 0 := by
  have e1 : ∀ x, txSee (fmt48 n) [] x = getW (fmtW 600 n) x := fun x => by rw [fmt48_yes h, see_nil]
  obtain ⟨f, hf⟩ : ∃ f, txSee (fmt48 n) [] = f := ⟨_, rfl⟩
  rw [hf] at e1 ⊢
  have h1 := h.1
  have h2 := h.2.1
  have h3 := h.2.2
  have f16 : f 16 = n := by rw [e1]; exact fmt48_16 h
  have f37 : f 3776 = n - 3776 := by rw [e1, getW_fmt (K := 600) h]; simp
  have fl : f (n - 8) = n - 3776 := by rw [e1, getW_fmt (K := 600) h]; simp
  have us : usz (n - 3776) = n - 3776 := by unfold usz; omega
  have uu : uus (n - 3776) = false := by unfold uus; rw [decide_eq_false]; omega
  have uo : uow (n - 3776) = 0 := by unfold uow; omega
  have hm : mayW (n - 3776) := by
    unfold mayW
    rw [us, uu, uo]
    unfold mayP
    simp
    omega
  have hr : rdP f 3776 := by
    unfold rdP
    rw [f37, f16, us]
    refine ⟨hm, by unfold inP; omega, ?_⟩
    rw [show 3776 + (n - 3776) - 8 = n - 8 by omega]
    exact fl
  obtain ⟨r1, r2, r3, r4⟩ := rd_yes hr
  rw [r1, r2, r3, r4, f37, us, uu, uo]
  exact ⟨rfl, rfl, rfl, rfl⟩
theorem first_no {n : Nat} (h : ¬ fitsP n 4800) : rdS (txSee (fmt48 n) []) 3776 = 0 ∧ rdU (txSee (fmt48 n) []) 3776 = false ∧ rdO (txSee (fmt48 n) []) 3776 = 0 ∧ rdE (txSee (fmt48 n) []) 3776 = 12 := by
  refine rd_no (fun hr => not_mayW_0 ?_)
  have := hr.1
  rw [fmt48_no h, see_nil] at this
  rw [show getW (List.replicate 600 0) 3776 = 0 by decide +kernel] at this
  exact this
set_option maxHeartbeats 2000000 in
theorem core (n : Nat) (hn : n < 18446744073709551616) (w : World) :
    Calls Try.prog 7 #[.int .u64 n] w fun e w' => e = .returned (.bool true) ∧ w.grownBy w' none := by
  have hfo := fun w => formed_nil n hn w
  have hf : ∀ w, Calls Try.prog 23 #[.int .u64 n, .int .u64 4800] w _ := fun w => rfits_any n 4800 w
  have hrn : ∀ w, Calls Try.prog 17 #[.pointer none, .int .u64 3776] w _ := fun w => tread_nil 3776 w
  by_cases h : fitsP n 4800
  · rw [decide_eq_true h] at hf
    obtain ⟨a1, a2, a3, a4⟩ := first_yes h
    obtain ⟨ws, ews⟩ : ∃ ws, fmt48 n = ws := ⟨_, rfl⟩
    rw [ews] at hfo a1 a2 a3 a4
    have hr1 : ∀ (w : World) (T M : Nat) (R : Option Nat) (B D : Nat) (h : Thinks w T M R B D ws []), Calls Try.prog 17 #[.pointer (some ⟨T, 0, none⟩), .int .u64 3776] w _ := fun w T M R B D h => tread_any h 3776 (by decide)
    rw [a1, a2, a3, a4] at hr1
    have hwn : ∀ w, Calls Try.prog 19 #[.pointer none, .int .u64 3776, .agg #[.int .u64 (n - 3776 : Nat), .bool false, .int .i64 0]] w _ := fun w => twrite_nil 3776 (n - 3776) false 0 w
    have e1 : IntKind.u64.wrap ((n : Int) - 3776) = (n - 3776 : Nat) := by have := h.2.1; rw [IntKind.wrap_u64]; omega
    obtain ⟨k, hk⟩ : ∃ k, n - 3776 = k := ⟨_, rfl⟩
    rw [hk] at hr1 hwn e1
    clear hk a1 a2 a3 a4 ews h
    go_enter Try.func7, Try.ntmps7
    go_wp2_with (first | (go_at_call 8; ((with_reducible refine (awake5 _).mono ?_); rintro e w1 ⟨rfl, hg1⟩)) | (go_at_call 16; ((with_reducible refine (hfo _).mono ?_); rintro e w2 ⟨B, D, T, M, R, wv, pv, rfl, X1, hrt, _⟩; obtain ⟨wa, wn, wc, hwv⟩ := wv_form hrt.words; subst hwv; obtain ⟨pa, pn, pc, hpv⟩ := pv_form hrt.puts; subst hpv; have X2 := X1.later (World.grownBy_alloc w2 (.cells #[.slice wa wn wc, .slice pa pn pc] 42) none))) | (go_at_call 17; ((with_reducible refine (hr1 _ _ _ _ _ _ X2.tx).mono ?_); rintro e w3 ⟨rfl, hg3⟩; have hga := World.grownBy_alloc w3 (.cells #[.int .u64 k, .bool false, .int .i64 0] 26) none; have X3 := X2.later (grown_trans hg3 hga))) | (go_at_call 17; ((with_reducible refine (hrn _).mono ?_); rintro e w4 ⟨rfl, hg4⟩; have hgb := World.grownBy_alloc w4 (.cells #[.int .u64 0, .bool false, .int .i64 0] 26) none; have X4 := X3.later (grown_trans hg4 hgb); obtain ⟨q0, q1, q2⟩ := tag_cells (tag_first (grown_trans hg4 hgb)))) | (go_at_call 23; ((with_reducible refine (hf _).mono ?_); rintro e w5 ⟨rfl, rfl⟩)) | (go_at_call 19; ((with_reducible refine (hwn _).mono ?_); rintro e w6 ⟨rfl, hg6⟩; have X6 := X4.later hg6)))
    go_ret
    exact ⟨ret_bool' (by simp), grown_trans hg1 X6.since⟩
  · rw [decide_eq_false h] at hf
    obtain ⟨a1, a2, a3, a4⟩ := first_no h
    obtain ⟨ws, ews⟩ : ∃ ws, fmt48 n = ws := ⟨_, rfl⟩
    rw [ews] at hfo a1 a2 a3 a4
    have hr1 : ∀ (w : World) (T M : Nat) (R : Option Nat) (B D : Nat) (h : Thinks w T M R B D ws []), Calls Try.prog 17 #[.pointer (some ⟨T, 0, none⟩), .int .u64 3776] w _ := fun w T M R B D h => tread_any h 3776 (by decide)
    rw [a1, a2, a3, a4] at hr1
    clear a1 a2 a3 a4 ews h
    go_enter Try.func7, Try.ntmps7
    go_wp2_with (first | (go_at_call 8; ((with_reducible refine (awake5 _).mono ?_); rintro e w1 ⟨rfl, hg1⟩)) | (go_at_call 16; ((with_reducible refine (hfo _).mono ?_); rintro e w2 ⟨B, D, T, M, R, wv, pv, rfl, X1, hrt, _⟩; obtain ⟨wa, wn, wc, hwv⟩ := wv_form hrt.words; subst hwv; obtain ⟨pa, pn, pc, hpv⟩ := pv_form hrt.puts; subst hpv; have X2 := X1.later (World.grownBy_alloc w2 (.cells #[.slice wa wn wc, .slice pa pn pc] 42) none))) | (go_at_call 17; ((with_reducible refine (hr1 _ _ _ _ _ _ X2.tx).mono ?_); rintro e w3 ⟨rfl, hg3⟩; have hga := World.grownBy_alloc w3 (.cells #[.int .u64 0, .bool false, .int .i64 0] 26) none; have X3 := X2.later (grown_trans hg3 hga))) | (go_at_call 17; ((with_reducible refine (hrn _).mono ?_); rintro e w4 ⟨rfl, hg4⟩; have hgb := World.grownBy_alloc w4 (.cells #[.int .u64 0, .bool false, .int .i64 0] 26) none; have X4 := X3.later (grown_trans hg4 hgb))) | (go_at_call 23; ((with_reducible refine (hf _).mono ?_); rintro e w5 ⟨rfl, rfl⟩)))
    go_ret
    exact ⟨ret_bool' (by simp), grown_trans hg1 X4.since⟩
theorem walk (a : Int) (wa : (Lit.int .u64 a).wf = true) (w : World) :
    Calls Try.prog 7 #[.int .u64 a] w fun e w' => e = .returned (.bool true) ∧ Below w.heap.size w w' := by
  have b0 := bounds_u64 wa
  obtain ⟨n, rfl⟩ := Int.eq_ofNat_of_zero_le b0.1
  exact (core n (by omega) w).mono fun e w' ⟨h1, h2⟩ => ⟨h1, grown_below h2⟩

theorem laidOut : laidOutB Try.prog = true := by kernel_rfl
/-! ### The row's step: the guide's frame -/
theorem own : ownKnob Try.prog.godebug = none := by kernel_rfl
set_option maxRecDepth 100000 in
theorem lifted (os : Os) (started : os.Started) (H : Type) (enc : TypeId × Value → H) :
    ReturnsInHanded {} Try.checked os 7 .any (Rows.tagFirstSpec.pre6 enc Try.prog Try.f7 Rows.tagFirstRow.domain false) (Rows.tagFirstSpec.post enc Try.prog Try.f7 false true false false) := by
  refine returnsInHanded_of_change (C := Try.checked) own started (by kernel_rfl) Try.func7
    (ChangeSpec.witness6 (enc := enc) (C := Try.checked) false ⟨#[], #[.int .u64 0], []⟩ 8 (by kernel_rfl) (by kernel_rfl) (by kernel_rfl) (by kernel_rfl)) ?_
  intro W base args ds gs before hval0 hW hcnd _
  have hval : ∀ (j : Nat) t v, Try.f7.params[j]? = some t → args[j]? = some v → Value.okWide Try.prog W .any base t v := hval0
  have hW' := hW
  obtain ⟨p, q, hA0, hV, rfl, hfz, hnd⟩ := hW
  have hA : DataW.TrodAll enc Try.prog W 0 (fun _ => true) true Try.f7.params.toList args.toList ds p := hA0
  rw [Try.params7] at hA hval
  obtain ⟨v0, vs0, d0, ds0, p0, q0, hargs, rfl, rfl, h0, r0⟩ := trodAll_cons hA
  obtain ⟨rfl, rfl, rfl⟩ := trodAll_nil r0
  obtain rfl : args = #[v0] := by cases args; simp_all
  obtain ⟨rfl, rfl⟩ := trodVars_none hV
  obtain ⟨a0, rfl, rfl, rfl, w0⟩ := open_int Try.underlying22 (hval 0 22 v0 rfl rfl) h0
  clear hA0 hval0
  refine (walk a0 w0 W).mono fun e W' ⟨he, bel⟩ => ?_
  subst he
  exact ⟨_, rfl, _, _, _, [], _, [], hW', trodAll_mk1 (shut_bool Try.underlying4 _), (trodAll_cons_mk (shut_int Try.underlying22 w0) trodAll_mk0), rfl, bel.frame _, fun h => by cases h⟩

theorem over : Rows.tagFirstRow.holds Try.pinned (OpenSpec.ofChange Rows.tagFirstSpec) :=
  OpenClaim.holds_of_wide 7 Try.f7 rfl rfl rfl rfl rfl rfl rfl ⟨rfl, rfl, rfl, rfl, rfl⟩ rfl rfl rfl rfl rfl (by kernel_rfl) Try.func7 (by kernel_rfl)
    (of_decide_eq_true (by kernel_rfl)) (by unfold Func.isWrapper; first | (rw [if_pos (by decide +kernel)]; kernel_rfl) | (rw [if_neg (by decide +kernel)]; exact ⟨rfl, rfl⟩))
    (fun os started H enc _ => lifted os started H enc)

theorem proved : Rows.TagFirstSaid :=
  over
#print axioms proved


end Go.Proofs.Ytgebkdngglljeaa.tagFirst
