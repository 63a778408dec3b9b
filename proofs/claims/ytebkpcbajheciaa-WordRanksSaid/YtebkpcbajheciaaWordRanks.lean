/-
  No two numbers have one rank: word.Mix is one to one, and adds, modulo 2^64. The statement WordRanks, for every two numbers; no condition.
-/
import Derived.Test.YtebkpcbajheciaaWordF
import Derived.Test.YtebkpcbajheciaaRows
import Derived.ProofKit
import Derived.OpenShut
namespace Go.Proofs.Ytebkpcbajheciaa.wordRanks
open Go.ChangeShapes Go.WideShapes Go.ChangeAt Go.RowKit
set_option linter.unusedVariables false
set_option linter.unusedSimpArgs false

theorem mix_add' (a b C M : Int) : ((a + b) % M * C) % M = ((a * C) % M + (b * C) % M) % M := by
  rw [Int.mul_emod, Int.emod_emod, ← Int.mul_emod, Int.add_mul, Int.add_emod]
theorem mix_inj' (a b C D M : Int) (h1 : (C * D) % M = 1 % M) (ha : a % M = a) (hb : b % M = b) (h : (a * C) % M = (b * C) % M) : a = b := by
  have h2 : (a * C * D) % M = (b * C * D) % M := by rw [Int.mul_emod (a * C), h, ← Int.mul_emod]
  have key : ∀ x : Int, x % M = x → (x * C * D) % M = x := by
    intro x hx
    rw [Int.mul_assoc, Int.mul_emod, h1, ← Int.mul_emod, Int.mul_one, hx]
  rw [← key a ha, ← key b hb, h2]
theorem mix_add (a b : Int) : IntKind.u64.wrap (IntKind.u64.wrap (a + b) * 11400714819323198485) = IntKind.u64.wrap (IntKind.u64.wrap (a * 11400714819323198485) + IntKind.u64.wrap (b * 11400714819323198485)) := by
  simp only [IntKind.wrap_u64]
  exact mix_add' a b _ _
theorem in_u64 (a : Int) (ha : 0 ≤ a ∧ a ≤ 18446744073709551615) : a % 18446744073709551616 = a := Int.emod_eq_of_lt ha.1 (by omega)
theorem mix_inj (a b : Int) (ha : 0 ≤ a ∧ a ≤ 18446744073709551615) (hb : 0 ≤ b ∧ b ≤ 18446744073709551615) (h : IntKind.u64.wrap (a * 11400714819323198485) = IntKind.u64.wrap (b * 11400714819323198485)) : a = b := by
  simp only [IntKind.wrap_u64] at h
  exact mix_inj' a b 11400714819323198485 17428512612931826493 18446744073709551616 (by decide +kernel) (in_u64 a ha) (in_u64 b hb) h

theorem mix_ne (a b : Int) (ha : 0 ≤ a ∧ a ≤ 18446744073709551615) (hb : 0 ≤ b ∧ b ≤ 18446744073709551615) : (IntKind.u64.wrap (a * 11400714819323198485) == IntKind.u64.wrap (b * 11400714819323198485)) = (a == b) := by
  rw [Bool.eq_iff_iff]
  simp only [beq_iff_eq]
  exact ⟨mix_inj a b ha hb, fun h => by rw [h]⟩
theorem mix_sum (a b : Int) : (IntKind.u64.wrap (IntKind.u64.wrap (a + b) * 11400714819323198485) == IntKind.u64.wrap (IntKind.u64.wrap (a * 11400714819323198485) + IntKind.u64.wrap (b * 11400714819323198485))) = true := by
  rw [mix_add]; exact beq_self_eq_true _

set_option maxHeartbeats 400000 in
theorem walk (a0 : Int) (a1 : Int) (w0 : (Lit.int .u64 a0).wf = true) (w1 : (Lit.int .u64 a1).wf = true) (w : World) :
    Calls Try.prog 8 #[.int .u64 a0, .int .u64 a1] w fun e w' => e = .returned (.bool true) ∧ Below w.heap.size w w' := by
  have hn := mix_ne a0 a1 (bounds_u64 w0) (bounds_u64 w1)
  have hs := mix_sum a0 a1
  go_enter Try.func8, Try.ntmps8
  go_wp2_with (first | (go_at_call 9; refine (awake_any _).mono ?_; rintro e w1 ⟨rfl, hb1⟩) | (go_at_call 20; refine (mix_any _ _).mono ?_; rintro e w1 ⟨rfl, rfl⟩))
  go_ret
  exact ⟨rfl, hb1⟩
/-! ### The row's step: the guide's frame -/
theorem own : ownKnob Try.prog.godebug = none := by kernel_rfl
set_option maxRecDepth 100000 in
theorem lifted (os : Os) (started : os.Started) (H : Type) (enc : TypeId × Value → H) :
    ReturnsInHanded {} Try.checked os 8 .any (Rows.wordRanksSpec.pre6 enc Try.prog Try.f8 Rows.wordRanksRow.domain false) (Rows.wordRanksSpec.post enc Try.prog Try.f8 false true false false) := by
  refine returnsInHanded_of_change (C := Try.checked) own started (by kernel_rfl) Try.func8
    (ChangeSpec.witness6 (enc := enc) (C := Try.checked) false ⟨#[], #[.int .u64 0, .int .u64 0], []⟩ 8 (by kernel_rfl) (by kernel_rfl) (by kernel_rfl) (by kernel_rfl)) ?_
  intro W base args ds gs before hval0 hW hcnd _
  have hval : ∀ (j : Nat) t v, Try.f8.params[j]? = some t → args[j]? = some v → Value.okWide Try.prog W .any base t v := hval0
  have hW' := hW
  obtain ⟨p, q, hA0, hV, rfl, hfz, hnd⟩ := hW
  have hA : DataW.TrodAll enc Try.prog W 0 (fun _ => true) true Try.f8.params.toList args.toList ds p := hA0
  rw [Try.params8] at hA hval
  obtain ⟨v0, vs0, d0, ds0, p0, q0, hargs, rfl, rfl, h0, r0⟩ := trodAll_cons hA
  obtain ⟨v1, vs1, d1, ds1, p1, q1, rfl, rfl, rfl, h1, r1⟩ := trodAll_cons r0
  obtain ⟨rfl, rfl, rfl⟩ := trodAll_nil r1
  obtain rfl : args = #[v0, v1] := by cases args; simp_all
  obtain ⟨rfl, rfl⟩ := trodVars_none hV
  obtain ⟨a0, rfl, rfl, rfl, w0⟩ := open_int Try.underlying22 (hval 0 22 v0 rfl rfl) h0
  obtain ⟨a1, rfl, rfl, rfl, w1⟩ := open_int Try.underlying22 (hval 1 22 v1 rfl rfl) h1
  clear hA0 hval0
  simp only [List.append_nil] at hW'
  refine (walk a0 a1 w0 w1 W).mono fun e W' ⟨he, bel⟩ => ?_
  subst he
  exact ⟨_, rfl, _, _, _, [], _, [], hW', trodAll_mk1 (shut_bool Try.underlying4 _), (trodAll_cons_mk (shut_int Try.underlying22 w0) (trodAll_cons_mk (shut_int Try.underlying22 w1) trodAll_mk0)), rfl, bel.frame _, fun h => by cases h⟩

theorem over : Rows.wordRanksRow.holds Try.pinned (OpenSpec.ofChange Rows.wordRanksSpec) :=
  OpenClaim.holds_of_wide 8 Try.f8 rfl rfl rfl rfl rfl rfl rfl ⟨rfl, rfl, rfl, rfl, rfl⟩ rfl rfl rfl rfl rfl (by kernel_rfl) Try.func8 (by kernel_rfl)
    (of_decide_eq_true (by kernel_rfl)) (by unfold Func.isWrapper; first | (rw [if_pos (by decide +kernel)]; kernel_rfl) | (rw [if_neg (by decide +kernel)]; exact ⟨rfl, rfl⟩))
    (fun os started H enc _ => lifted os started H enc)

theorem proved : Rows.WordRanksSaid :=
  over
#print axioms proved

end Go.Proofs.Ytebkpcbajheciaa.wordRanks
