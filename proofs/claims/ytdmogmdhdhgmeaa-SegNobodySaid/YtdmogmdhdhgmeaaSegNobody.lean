/-
  Of nobody's segment nothing is told, and nothing is stored. The statement SegNobody, for every offset and every word; no condition.
-/
import Derived.Test.YtdmogmdhdhgmeaaSegZ
import Derived.Test.YtdmogmdhdhgmeaaRows
import Derived.Lib.SmallJoins
import Derived.ProofKit
import Derived.OpenShut
import Derived.Carry
import Derived.ChangeOld
namespace Go.Proofs.Ytdmogmdhdhgmeaa.segNobody
open Go.ChangeShapes Go.WideShapes Go.ChangeAt Go.RowKit
set_option linter.unusedVariables false
set_option linter.unusedSimpArgs false

theorem ret_bool {b : Bool} (h : b = true) : Ending.returned (.bool b) = .returned (.bool true) := by rw [h]
theorem nobody (w : World) : SegAt w (.pointer none) [] := .inl ⟨rfl, rfl⟩
theorem no_stand (off : Nat) : ¬ stands [] off := fun h => by have := h.2; simp at this
theorem no_within (off n : Nat) : ¬ within [] off n := fun h => h.1 rfl
set_option maxHeartbeats 400000 in
theorem walk_core (off v : Nat) (ho : off < 18446744073709551616) (hv : v < 18446744073709551616) (w : World) :
    Calls Try.prog 7 #[.int .u64 off, .int .u64 v] w fun e w' => e = .returned (.bool true) ∧ Below w.heap.size w w' := by
  have cl := fun w => load_no (nobody w) off ho (no_stand off)
  have cb : ∀ w : World, Calls Try.prog 11 #[.pointer none, .int .u64 off, .int .u64 1] w fun e w' => e = .returned (.tuple #[.slice none 0 0, .int .i64 1]) ∧ w = w' := fun w => bytes_no (nobody w) off 1 ho (by decide) (no_within off 1)
  have cz : ∀ w : World, Calls Try.prog 19 #[.pointer none] w fun e w' => e = .returned (.int .u64 0) ∧ w = w' := fun w => size_any (nobody w)
  have cs := fun w => store_no (nobody w) off v ho (no_stand off)
  go_enter Try.func7, Try.ntmps7
  go_wp2_with (first | (go_at_call 8; ((with_reducible refine (awake_any _).mono ?_); rintro e w1 ⟨rfl, hg1⟩)) | (go_at_call 15; ((with_reducible refine (cl _).mono ?_); rintro e w2 ⟨rfl, hg2⟩)) | (go_at_call 11; ((with_reducible refine (cb _).mono ?_); rintro e w3 ⟨rfl, rfl⟩)) | (go_at_call 19; ((with_reducible refine (cz _).mono ?_); rintro e w4 ⟨rfl, rfl⟩)) | (go_at_call 14; ((with_reducible refine (cs _).mono ?_); rintro e w5 ⟨rfl, hg5⟩)) | (go_at_call 13; ((with_reducible refine (copy_nil _).mono ?_); rintro e w6 ⟨rfl, rfl⟩)) | (go_at_call 16; ((with_reducible refine (diff_any (nobody _) (nobody _)).mono ?_); rintro e w7 ⟨v7, rfl, R7⟩; obtain ⟨a7, c7, hv7⟩ := R7.words.slice; subst hv7)))
  go_ret
  exact ⟨ret_bool rfl, grown_below (grown_trans (grown_trans (grown_trans hg1 hg2) hg5) R7.grown)⟩
theorem walk (a0 : Int) (a1 : Int) (w0 : (Lit.int .u64 a0).wf = true) (w1 : (Lit.int .u64 a1).wf = true) (w : World) :
    Calls Try.prog 7 #[.int .u64 a0, .int .u64 a1] w fun e w' => e = .returned (.bool true) ∧ Below w.heap.size w w' := by
  have b0 := bounds_u64 w0
  have b1 := bounds_u64 w1
  obtain ⟨n, rfl⟩ := Int.eq_ofNat_of_zero_le b0.1
  obtain ⟨m, rfl⟩ := Int.eq_ofNat_of_zero_le b1.1
  exact walk_core n m (by omega) (by omega) w

/-! ### The row's step: the guide's frame -/
theorem own : ownKnob Try.prog.godebug = none := by kernel_rfl
set_option maxRecDepth 100000 in
theorem lifted (os : Os) (started : os.Started) (H : Type) (enc : TypeId × Value → H) :
    ReturnsInHanded {} Try.checked os 7 .any (Rows.segNobodySpec.pre6 enc Try.prog Try.f7 Rows.segNobodyRow.domain false) (Rows.segNobodySpec.post enc Try.prog Try.f7 false true false false) := by
  refine returnsInHanded_of_change (C := Try.checked) own started (by kernel_rfl) Try.func7
    (ChangeSpec.witness6 (enc := enc) (C := Try.checked) false ⟨#[], #[.int .u64 0, .int .u64 0], []⟩ 8 (by kernel_rfl) (by kernel_rfl) (by kernel_rfl) (by kernel_rfl)) ?_
  intro W base args ds gs before hval0 hW hcnd _
  have hval : ∀ (j : Nat) t v, Try.f7.params[j]? = some t → args[j]? = some v → Value.okWide Try.prog W .any base t v := hval0
  have hW' := hW
  obtain ⟨p, q, hA0, hV, rfl, hfz, hnd⟩ := hW
  have hA : DataW.TrodAll enc Try.prog W 0 (fun _ => true) true Try.f7.params.toList args.toList ds p := hA0
  rw [Try.params7] at hA hval
  obtain ⟨v0, vs0, d0, ds0, p0, q0, hargs, rfl, rfl, h0, r0⟩ := trodAll_cons hA
  obtain ⟨v1, vs1, d1, ds1, p1, q1, rfl, rfl, rfl, h1, r1⟩ := trodAll_cons r0
  obtain ⟨rfl, rfl, rfl⟩ := trodAll_nil r1
  obtain rfl : args = #[v0, v1] := by cases args; simp_all
  obtain ⟨rfl, rfl⟩ := trodVars_none hV
  obtain ⟨a0, rfl, rfl, rfl, w0⟩ := open_int Try.underlying22 (hval 0 22 v0 rfl rfl) h0
  obtain ⟨a1, rfl, rfl, rfl, w1⟩ := open_int Try.underlying22 (hval 1 22 v1 rfl rfl) h1
  clear hA0 hval0
  simp only [List.append_nil] at hW'
  refine (walk a0 a1 w0 w1 W).mono fun e W' ⟨he, bel⟩ => ?_
  subst he
  exact ⟨_, rfl, _, _, _, [], _, [], hW', trodAll_mk1 (shut_bool Try.underlying4 _), (trodAll_cons_mk (shut_int Try.underlying22 w0) (trodAll_cons_mk (shut_int Try.underlying22 w1) trodAll_mk0)), rfl, bel.frame _, fun h => by cases h⟩

theorem over : Rows.segNobodyRow.holds Try.pinned (OpenSpec.ofChange Rows.segNobodySpec) :=
  OpenClaim.holds_of_wide 7 Try.f7 rfl rfl rfl rfl rfl rfl rfl ⟨rfl, rfl, rfl, rfl, rfl⟩ rfl rfl rfl rfl rfl (by kernel_rfl) Try.func7 (by kernel_rfl)
    (of_decide_eq_true (by kernel_rfl)) (by unfold Func.isWrapper; first | (rw [if_pos (by decide +kernel)]; kernel_rfl) | (rw [if_neg (by decide +kernel)]; exact ⟨rfl, rfl⟩))
    (fun os started H enc _ => lifted os started H enc)

theorem proved : Rows.SegNobodySaid :=
  over
#print axioms proved

end Go.Proofs.Ytdmogmdhdhgmeaa.segNobody
