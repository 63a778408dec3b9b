/-
  Over nobody's segment nothing is thought of. The statement TxNobody, for every offset and every word; no condition.
-/
import Derived.Test.YtinkfichgknifaaTxZ
import Derived.Test.YtinkfichgknifaaPutO
namespace Go.Proofs.Ytinkfichgknifaa.txNobody
open Go.ChangeShapes Go.WideShapes Go.ChangeAt Go.RowKit
set_option linter.unusedVariables false
set_option linter.unusedSimpArgs false

set_option maxHeartbeats 1000000 in
theorem walk_core (x y : Nat) (w : World) :
    Calls Try.prog 8 #[.agg #[.int .u64 x, .int .u64 y]] w fun e w' => e = .returned (.bool true) ∧ w.grownBy w' none := by
  have hg0 : w.grownBy (w.alloc (.cells #[.int .u64 (x : Nat), .int .u64 (y : Nat)] 47)) none := World.grownBy_alloc _ _ _
  have hp0 := PairAt.made w x y
  go_enter Try.func8, Try.ntmps8
  go_wp2_with (first | (go_at_call 9; ((with_reducible refine (awake3 _).mono ?_); rintro e w1 ⟨rfl, hg1⟩; have hp1 := hp0.later hg1; have k0 := hp1.c0; have k1 := hp1.c1)) | (go_at_call 26; ((with_reducible refine (txnew_nil _).mono ?_); rintro e w9 ⟨rfl, rfl⟩)) | (go_at_call 27; ((with_reducible refine (txstore_nil _ _ _).mono ?_); rintro e w9 ⟨rfl, rfl⟩)) | (go_at_call 21; ((with_reducible refine (txapply_nil _).mono ?_); rintro e w2 ⟨rfl, hg2⟩; have hp2 := hp1.later hg2; have m0 := hp2.c0; have m1 := hp2.c1)) | (go_at_call 13; ((with_reducible refine (txload_nil _ _).mono ?_); rintro e w9 ⟨rfl, rfl⟩)) | (go_at_call 17; ((with_reducible refine (txold_nil _ _).mono ?_); rintro e w9 ⟨rfl, rfl⟩)) | (go_at_call 15; ((with_reducible refine (txputs_nil _).mono ?_); rintro e w3 ⟨a3, c3, rfl, hg3⟩)) | (go_at_call 20; ((with_reducible refine (txsize_nil _).mono ?_); rintro e w9 ⟨rfl, rfl⟩)) | (go_at_call 12; ((with_reducible refine (txbare_nil _).mono ?_); rintro e w9 ⟨rfl, rfl⟩)))
  go_ret
  exact ⟨ret_bool' rfl, grown_trans (grown_trans (grown_trans hg0 hg1) hg2) hg3⟩
theorem walk (x y : Nat) (hx : x < 18446744073709551616) (hy : y < 18446744073709551616) (w : World) :
    Calls Try.prog 8 #[.agg #[.int .u64 x, .int .u64 y]] w fun e w' => e = .returned (.bool true) ∧ Below w.heap.size w w' :=
  (walk_core x y w).mono fun e w' ⟨h1, h2⟩ => ⟨h1, grown_below h2⟩

theorem laidOut : laidOutB Try.prog = true := by kernel_rfl
/-! ### The row's step: the guide's frame -/
theorem own : ownKnob Try.prog.godebug = none := by kernel_rfl
set_option maxRecDepth 100000 in
theorem lifted (os : Os) (started : os.Started) (H : Type) (enc : TypeId × Value → H) :
    ReturnsInHanded {} Try.checked os 8 .any (Rows.txNobodySpec.pre6 enc Try.prog Try.f8 Rows.txNobodyRow.domain false) (Rows.txNobodySpec.post enc Try.prog Try.f8 false true false false) := by
  refine returnsInHanded_of_change (C := Try.checked) own started (by kernel_rfl) Try.func8
    (ChangeSpec.witness6 (enc := enc) (C := Try.checked) false ⟨#[], #[.agg #[.int .u64 0, .int .u64 0]], []⟩ 8 (by kernel_rfl) (by kernel_rfl) (by kernel_rfl) (by kernel_rfl)) ?_
  intro W base args ds gs before hval0 hW hcnd _
  have hval : ∀ (j : Nat) t v, Try.f8.params[j]? = some t → args[j]? = some v → Value.okWide Try.prog W .any base t v := hval0
  have hW' := hW
  obtain ⟨p, q, hA0, hV, rfl, hfz, hnd⟩ := hW
  have hA : DataW.TrodAll enc Try.prog W 0 (fun _ => true) true Try.f8.params.toList args.toList ds p := hA0
  rw [Try.params8] at hA hval
  obtain ⟨v0, vs0, d0, ds0, p0, q0, hargs, rfl, rfl, h0, r0⟩ := trodAll_cons hA
  obtain ⟨rfl, rfl, rfl⟩ := trodAll_nil r0
  obtain rfl : args = #[v0] := by cases args; simp_all
  obtain ⟨rfl, rfl⟩ := trodVars_none hV
  have lt0 : ∀ x ∈ p0, x.block < W.heap.size := by obtain ⟨m, hm⟩ := h0; exact DataW.trod_lt m _ _ _ hm
  obtain ⟨x0, y0, rfl, hx0, hy0⟩ := open_put (hval 0 47 v0 rfl rfl) h0
  clear hA0 hval0
  refine (walk x0 y0 hx0 hy0 W).mono fun e W' ⟨he, bel⟩ => ?_
  subst he
  exact ⟨_, rfl, _, _, _, [], _, [], hW', trodAll_mk1 (shut_bool Try.underlying4 _), (trodAll_cons_mk (Below.trod laidOut (by kernel_rfl) (of_decide_eq_true (by kernel_rfl)) h0 bel lt0) trodAll_mk0), rfl, bel.frame _, fun h => by cases h⟩

theorem over : Rows.txNobodyRow.holds Try.pinned (OpenSpec.ofChange Rows.txNobodySpec) :=
  OpenClaim.holds_of_wide 8 Try.f8 rfl rfl rfl rfl rfl rfl rfl ⟨rfl, rfl, rfl, rfl, rfl⟩ rfl rfl rfl rfl rfl (by kernel_rfl) Try.func8 (by kernel_rfl)
    (of_decide_eq_true (by kernel_rfl)) (by unfold Func.isWrapper; first | (rw [if_pos (by decide +kernel)]; kernel_rfl) | (rw [if_neg (by decide +kernel)]; exact ⟨rfl, rfl⟩))
    (fun os started H enc _ => lifted os started H enc)

theorem proved : Rows.TxNobodySaid :=
  over
#print axioms proved


end Go.Proofs.Ytinkfichgknifaa.txNobody
