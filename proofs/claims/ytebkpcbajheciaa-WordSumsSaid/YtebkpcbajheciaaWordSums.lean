/-
  Any sum, any product, and any multiple of any number, or that it is too large: all as the document says them. The statement WordSums, for every two numbers; no condition.
-/
import Derived.Test.YtebkpcbajheciaaWordF
import Derived.Test.YtebkpcbajheciaaWordR
import Derived.Test.YtebkpcbajheciaaWordT
import Derived.Test.YtebkpcbajheciaaWordM
import Derived.Test.YtebkpcbajheciaaRows
import Derived.ProofKit
import Derived.OpenShut
namespace Go.Proofs.Ytebkpcbajheciaa.wordSums
open Go.ChangeShapes Go.WideShapes Go.ChangeAt Go.RowKit
set_option linter.unusedVariables false
set_option linter.unusedSimpArgs false

/-- Both f and g tell r, b of x and y. -/
structure Tells (f g : Nat) (x y r : Nat) (b : Bool) : Prop where
  a : ∀ w : World, Calls Try.prog f #[.int .u64 x, .int .u64 y] w fun e w' => e = .returned (.tuple #[.int .u64 r, .bool b]) ∧ w = w'
  b : ∀ w : World, Calls Try.prog g #[.int .u64 x, .int .u64 y] w fun e w' => e = .returned (.tuple #[.int .u64 r, .bool b]) ∧ w = w'
theorem adds (x y : Nat) (hx : x < 18446744073709551616) (hy : y < 18446744073709551616) : ∃ r b, Tells 10 11 x y r b := by
  rcases Nat.lt_or_ge (x + y) 18446744073709551616 with h | h
  · exact ⟨_, _, add_low x y h, radd_low x y h⟩
  · exact ⟨0, _, add_high x y hx hy h, radd_high x y hx hy h⟩
theorem muls (x y : Nat) (hx : x < 18446744073709551616) (hy : y < 18446744073709551616) : ∃ r b, Tells 12 13 x y r b := by
  rcases Nat.lt_or_ge (x * y) 18446744073709551616 with h | h
  · exact ⟨_, _, mul_low x y _ hx hy rfl h, rmul_low x y _ hx hy rfl h⟩
  · exact ⟨0, _, mul_high x y hx hy h, rmul_high x y hx hy h⟩
theorem ups (x y : Nat) (hx : x < 18446744073709551616) (hy : y < 18446744073709551616) : ∃ r b, Tells 14 15 x y r b := by
  by_cases h1 : onesOf (y : Int) = 1
  · obtain ⟨k, hk, ey⟩ := ones_pow y hy h1
    rcases Nat.lt_or_ge (x + (y - 1)) 18446744073709551616 with h | h
    · exact ⟨_, _, up_pow_low x k y hk ey h, rup_pow_low x k y hk ey h⟩
    · exact ⟨0, _, up_pow_high x k y hx hk ey h, rup_pow_high x k y hx hk ey h⟩
  · refine ⟨0, _, up_not x y hy h1, rup_not x y hy ?_⟩
    intro k ek
    have hk : k < 64 := by
      rcases Nat.lt_or_ge k 64 with h | h
      · exact h
      · have h2 : 2 ^ 64 ≤ 2 ^ k := Nat.pow_le_pow_right (by decide) h
        rw [← ek, show (2 : Nat) ^ 64 = 18446744073709551616 by decide] at h2
        omega
    exact h1 (by rw [ek]; exact onesp k hk)

set_option maxHeartbeats 400000 in
theorem walk_core (x y r p q : Nat) (b c d : Bool) (HA : Tells 10 11 x y r b) (HM : Tells 12 13 x y p c) (HU : Tells 14 15 x y q d) (w : World) :
    Calls Try.prog 3 #[.int .u64 x, .int .u64 y] w fun e w' => e = .returned (.bool true) ∧ Below w.heap.size w w' := by
  go_enter Try.func3, Try.ntmps3
  go_wp2_with (first | (go_at_call 9; refine (awake_any _).mono ?_; rintro e w1 ⟨rfl, hb1⟩) | (go_at_call 10; refine (HA.a _).mono ?_; rintro e w1 ⟨rfl, rfl⟩) | (go_at_call 11; refine (HA.b _).mono ?_; rintro e w1 ⟨rfl, rfl⟩) | (go_at_call 12; refine (HM.a _).mono ?_; rintro e w1 ⟨rfl, rfl⟩) | (go_at_call 13; refine (HM.b _).mono ?_; rintro e w1 ⟨rfl, rfl⟩) | (go_at_call 14; refine (HU.a _).mono ?_; rintro e w1 ⟨rfl, rfl⟩) | (go_at_call 15; refine (HU.b _).mono ?_; rintro e w1 ⟨rfl, rfl⟩))
  go_ret
  exact ⟨rfl, hb1⟩
theorem walk (a0 : Int) (a1 : Int) (w0 : (Lit.int .u64 a0).wf = true) (w1 : (Lit.int .u64 a1).wf = true) (w : World) :
    Calls Try.prog 3 #[.int .u64 a0, .int .u64 a1] w fun e w' => e = .returned (.bool true) ∧ Below w.heap.size w w' := by
  have b0 := bounds_u64 w0
  have b1 := bounds_u64 w1
  obtain ⟨n, rfl⟩ := Int.eq_ofNat_of_zero_le b0.1
  obtain ⟨m, rfl⟩ := Int.eq_ofNat_of_zero_le b1.1
  have hn : n < 18446744073709551616 := by omega
  have hm : m < 18446744073709551616 := by omega
  obtain ⟨r, b, HA⟩ := adds n m hn hm
  obtain ⟨p, c, HM⟩ := muls n m hn hm
  obtain ⟨q, d, HU⟩ := ups n m hn hm
  exact walk_core n m r p q b c d HA HM HU w

/-! ### The row's step: the guide's frame -/
theorem own : ownKnob Try.prog.godebug = none := by kernel_rfl
set_option maxRecDepth 100000 in
theorem lifted (os : Os) (started : os.Started) (H : Type) (enc : TypeId × Value → H) :
    ReturnsInHanded {} Try.checked os 3 .any (Rows.wordSumsSpec.pre6 enc Try.prog Try.f3 Rows.wordSumsRow.domain false) (Rows.wordSumsSpec.post enc Try.prog Try.f3 false true false false) := by
  refine returnsInHanded_of_change (C := Try.checked) own started (by kernel_rfl) Try.func3
    (ChangeSpec.witness6 (enc := enc) (C := Try.checked) false ⟨#[], #[.int .u64 0, .int .u64 0], []⟩ 8 (by kernel_rfl) (by kernel_rfl) (by kernel_rfl) (by kernel_rfl)) ?_
  intro W base args ds gs before hval0 hW hcnd _
  have hval : ∀ (j : Nat) t v, Try.f3.params[j]? = some t → args[j]? = some v → Value.okWide Try.prog W .any base t v := hval0
  have hW' := hW
  obtain ⟨p, q, hA0, hV, rfl, hfz, hnd⟩ := hW
  have hA : DataW.TrodAll enc Try.prog W 0 (fun _ => true) true Try.f3.params.toList args.toList ds p := hA0
  rw [Try.params3] at hA hval
  obtain ⟨v0, vs0, d0, ds0, p0, q0, hargs, rfl, rfl, h0, r0⟩ := trodAll_cons hA
  obtain ⟨v1, vs1, d1, ds1, p1, q1, rfl, rfl, rfl, h1, r1⟩ := trodAll_cons r0
  obtain ⟨rfl, rfl, rfl⟩ := trodAll_nil r1
  obtain rfl : args = #[v0, v1] := by cases args; simp_all
  obtain ⟨rfl, rfl⟩ := trodVars_none hV
  obtain ⟨a0, rfl, rfl, rfl, w0⟩ := open_int Try.underlying22 (hval 0 22 v0 rfl rfl) h0
  obtain ⟨a1, rfl, rfl, rfl, w1⟩ := open_int Try.underlying22 (hval 1 22 v1 rfl rfl) h1
  clear hA0 hval0
  simp only [List.append_nil] at hW'
  refine (walk a0 a1 w0 w1 W).mono fun e W' ⟨he, bel⟩ => ?_
  subst he
  exact ⟨_, rfl, _, _, _, [], _, [], hW', trodAll_mk1 (shut_bool Try.underlying4 _), (trodAll_cons_mk (shut_int Try.underlying22 w0) (trodAll_cons_mk (shut_int Try.underlying22 w1) trodAll_mk0)), rfl, bel.frame _, fun h => by cases h⟩

theorem over : Rows.wordSumsRow.holds Try.pinned (OpenSpec.ofChange Rows.wordSumsSpec) :=
  OpenClaim.holds_of_wide 3 Try.f3 rfl rfl rfl rfl rfl rfl rfl ⟨rfl, rfl, rfl, rfl, rfl⟩ rfl rfl rfl rfl rfl (by kernel_rfl) Try.func3 (by kernel_rfl)
    (of_decide_eq_true (by kernel_rfl)) (by unfold Func.isWrapper; first | (rw [if_pos (by decide +kernel)]; kernel_rfl) | (rw [if_neg (by decide +kernel)]; exact ⟨rfl, rfl⟩))
    (fun os started H enc _ => lifted os started H enc)

theorem proved : Rows.WordSumsSaid :=
  over
#print axioms proved

end Go.Proofs.Ytebkpcbajheciaa.wordSums
