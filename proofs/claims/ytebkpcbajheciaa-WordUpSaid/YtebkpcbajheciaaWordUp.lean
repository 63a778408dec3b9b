/-
  What is rounded up is a multiple, not below, and less than one more of it; rounded again it stays. The statement WordUp, for every number and every power of two; no condition.
-/
import Derived.Test.YtebkpcbajheciaaWordF
import Derived.Test.YtebkpcbajheciaaRows
import Derived.ProofKit
import Derived.OpenShut
namespace Go.Proofs.Ytebkpcbajheciaa.wordUp
open Go.ChangeShapes Go.WideShapes Go.ChangeAt Go.RowKit
set_option linter.unusedVariables false
set_option linter.unusedSimpArgs false

theorem ret_bool {b : Bool} (h : b = true) : Ending.returned (.bool b) = .returned (.bool true) := by rw [h]
/-- What Up tells of n and a: r, b. -/
def Tells (n a r : Nat) (b : Bool) : Prop := ∀ w : World, Calls Try.prog 14 #[.int .u64 n, .int .u64 a] w fun e w' => e = .returned (.tuple #[.int .u64 r, .bool b]) ∧ w = w'
theorem Tells.at {n a r : Nat} {b : Bool} (h : Tells n a r b) (w : World) : Calls Try.prog 14 #[.int .u64 n, .int .u64 a] w fun e w' => e = .returned (.tuple #[.int .u64 r, .bool b]) ∧ w = w' := h w

set_option maxHeartbeats 400000 in
theorem walk_not (n k a : Nat) (hn : n < 18446744073709551616) (hk : k < 256) (ha : IntKind.u64.wrap (2 ^ (k % 64)) = (a : Int)) (h1 : 1 ≤ a) (h2 : a < 18446744073709551616) (h : 18446744073709551616 ≤ n + (a - 1)) (hne : ¬ (n : Int) % (a : Int) = 0) (HU : Tells n a 0 false) (w : World) :
    Calls Try.prog 6 #[.int .u64 n, .int .u8 k] w fun e w' => e = .returned (.bool true) ∧ Below w.heap.size w w' := by
  go_enter Try.func6, Try.ntmps6
  go_wp2_with (first | (go_at_call 9; refine (awake_any _).mono ?_; rintro e w1 ⟨rfl, hb1⟩) | (go_at_call 14; with_reducible refine (HU.at _).mono ?_; rintro e w1 ⟨rfl, rfl⟩))
  go_ret
  refine ⟨ret_bool ?_, hb1⟩
  simp only [Bool.and_eq_true, bne_iff_ne, ne_eq, decide_eq_true_eq]
  exact ⟨hne, by omega⟩
set_option maxHeartbeats 400000 in
theorem walk_fits (n k a u : Nat) (hn : n < 18446744073709551616) (hk : k < 256) (ha : IntKind.u64.wrap (2 ^ (k % 64)) = (a : Int)) (h1 : 1 ≤ a) (h2 : a < 18446744073709551616) (u1 : n ≤ u) (u2 : u < n + a) (u3 : u < 18446744073709551616) (u4 : (u : Int) % (a : Int) = 0) (HU : Tells n a u true) (HV : Tells u a u true) (w : World) :
    Calls Try.prog 6 #[.int .u64 n, .int .u8 k] w fun e w' => e = .returned (.bool true) ∧ Below w.heap.size w w' := by
  go_enter Try.func6, Try.ntmps6
  go_wp2_with (first | (go_at_call 9; refine (awake_any _).mono ?_; rintro e w1 ⟨rfl, hb1⟩) | (go_at_call 14; with_reducible refine (HU.at _).mono ?_; rintro e w1 ⟨rfl, rfl⟩) | (go_at_call 14; with_reducible refine (HV.at _).mono ?_; rintro e w1 ⟨rfl, rfl⟩))
  go_ret
  refine ⟨ret_bool ?_, hb1⟩
  rfl
/-- 2^64 is a multiple of a. -/
theorem pow_parts (j : Nat) (hj : j < 64) : 18446744073709551616 = 2 ^ j * 2 ^ (64 - j) := by
  rw [← Nat.pow_add, show j + (64 - j) = 64 by omega]
theorem walk (a0 : Int) (a1 : Int) (w0 : (Lit.int .u64 a0).wf = true) (w1 : (Lit.int .u8 a1).wf = true) (w : World) :
    Calls Try.prog 6 #[.int .u64 a0, .int .u8 a1] w fun e w' => e = .returned (.bool true) ∧ Below w.heap.size w w' := by
  have b0 := bounds_u64 w0
  have b1 := bounds_u8 w1
  obtain ⟨n, rfl⟩ := Int.eq_ofNat_of_zero_le b0.1
  obtain ⟨k, rfl⟩ := Int.eq_ofNat_of_zero_le b1.1
  have hn : n < 18446744073709551616 := by omega
  have hk : k < 256 := by omega
  have hj : k % 64 < 64 := Nat.mod_lt _ (by decide)
  have hb := pow_bounds (k % 64) hj
  have hp := pow_parts (k % 64) hj
  obtain ⟨a, ea⟩ : ∃ a, a = 2 ^ (k % 64) := ⟨_, rfl⟩
  obtain ⟨c, ec⟩ : ∃ c, c = 2 ^ (64 - k % 64) := ⟨_, rfl⟩
  have ha : IntKind.u64.wrap (2 ^ (k % 64)) = (a : Int) := by
    have e : (2 : Int) ^ (k % 64) = ((2 ^ (k % 64) : Nat) : Int) := by simp
    rw [e, IntWalk.u64_in _ (by omega), ea]
  rw [← ea] at hb
  rw [← ea, ← ec] at hp
  have hca : c * a = 18446744073709551616 := by rw [hp, Nat.mul_comm]
  clear hp
  rcases Nat.lt_or_ge (n + (a - 1)) 18446744073709551616 with h | h
  · have HU : Tells n a _ true := up_pow_low n (k % 64) a hj ea h
    obtain ⟨q, eq⟩ : ∃ q, q = (n + (a - 1)) / a := ⟨_, rfl⟩
    have hd := Nat.div_add_mod (n + (a - 1)) a
    have hm := Nat.mod_lt (n + (a - 1)) hb.1
    rw [← eq, Nat.mul_comm] at hd
    rw [← eq] at HU
    obtain ⟨u, eu⟩ : ∃ u, u = q * a := ⟨_, rfl⟩
    rw [← eu] at HU hd
    have hu : u < 18446744073709551616 := by omega
    have hqc : q < c := by
      rcases Nat.lt_or_ge q c with h' | h'
      · exact h'
      · have := Nat.mul_le_mul_right a h'
        omega
    have hfit : u + a ≤ 18446744073709551616 := by
      have := Nat.mul_le_mul_right a (Nat.succ_le_of_lt hqc)
      rw [Nat.succ_mul] at this
      omega
    have hmod : u % a = 0 := by rw [eu]; exact Nat.mul_mod_left _ _
    have hdiv : (u + (a - 1)) / a * a = u := by
      have : (u + (a - 1)) / a = q := by
        rw [eu, Nat.add_comm, Nat.add_mul_div_right _ _ hb.1, Nat.div_eq_of_lt (by omega), Nat.zero_add]
      rw [this, eu]
    have HV : Tells u a _ true := up_pow_low u (k % 64) a hj ea (by omega)
    rw [hdiv] at HV
    exact walk_fits n k a u hn hk ha hb.1 hb.2 (by omega) (by omega) hu (by rw [← Int.natCast_emod, hmod]; rfl) HU HV w
  · have HU : Tells n a 0 false := up_pow_high n (k % 64) a hn hj ea h
    refine walk_not n k a hn hk ha hb.1 hb.2 h ?_ HU w
    intro h0
    rw [← Int.natCast_emod] at h0
    have h0' : n % a = 0 := by omega
    have hd := Nat.div_add_mod n a
    rw [h0', Nat.add_zero, Nat.mul_comm] at hd
    have hqc : n / a < c := by
      rcases Nat.lt_or_ge (n / a) c with h' | h'
      · exact h'
      · have := Nat.mul_le_mul_right a h'
        omega
    have := Nat.mul_le_mul_right a (Nat.succ_le_of_lt hqc)
    rw [Nat.succ_mul] at this
    omega

/-! ### The row's step: the guide's frame -/
theorem own : ownKnob Try.prog.godebug = none := by kernel_rfl
set_option maxRecDepth 100000 in
theorem lifted (os : Os) (started : os.Started) (H : Type) (enc : TypeId × Value → H) :
    ReturnsInHanded {} Try.checked os 6 .any (Rows.wordUpSpec.pre6 enc Try.prog Try.f6 Rows.wordUpRow.domain false) (Rows.wordUpSpec.post enc Try.prog Try.f6 false true false false) := by
  refine returnsInHanded_of_change (C := Try.checked) own started (by kernel_rfl) Try.func6
    (ChangeSpec.witness6 (enc := enc) (C := Try.checked) false ⟨#[], #[.int .u64 0, .int .u8 0], []⟩ 8 (by kernel_rfl) (by kernel_rfl) (by kernel_rfl) (by kernel_rfl)) ?_
  intro W base args ds gs before hval0 hW hcnd _
  have hval : ∀ (j : Nat) t v, Try.f6.params[j]? = some t → args[j]? = some v → Value.okWide Try.prog W .any base t v := hval0
  have hW' := hW
  obtain ⟨p, q, hA0, hV, rfl, hfz, hnd⟩ := hW
  have hA : DataW.TrodAll enc Try.prog W 0 (fun _ => true) true Try.f6.params.toList args.toList ds p := hA0
  rw [Try.params6] at hA hval
  obtain ⟨v0, vs0, d0, ds0, p0, q0, hargs, rfl, rfl, h0, r0⟩ := trodAll_cons hA
  obtain ⟨v1, vs1, d1, ds1, p1, q1, rfl, rfl, rfl, h1, r1⟩ := trodAll_cons r0
  obtain ⟨rfl, rfl, rfl⟩ := trodAll_nil r1
  obtain rfl : args = #[v0, v1] := by cases args; simp_all
  obtain ⟨rfl, rfl⟩ := trodVars_none hV
  obtain ⟨a0, rfl, rfl, rfl, w0⟩ := open_int Try.underlying22 (hval 0 22 v0 rfl rfl) h0
  obtain ⟨a1, rfl, rfl, rfl, w1⟩ := open_int Try.underlying5 (hval 1 5 v1 rfl rfl) h1
  clear hA0 hval0
  simp only [List.append_nil] at hW'
  refine (walk a0 a1 w0 w1 W).mono fun e W' ⟨he, bel⟩ => ?_
  subst he
  exact ⟨_, rfl, _, _, _, [], _, [], hW', trodAll_mk1 (shut_bool Try.underlying4 _), (trodAll_cons_mk (shut_int Try.underlying22 w0) (trodAll_cons_mk (shut_int Try.underlying5 w1) trodAll_mk0)), rfl, bel.frame _, fun h => by cases h⟩

theorem over : Rows.wordUpRow.holds Try.pinned (OpenSpec.ofChange Rows.wordUpSpec) :=
  OpenClaim.holds_of_wide 6 Try.f6 rfl rfl rfl rfl rfl rfl rfl ⟨rfl, rfl, rfl, rfl, rfl⟩ rfl rfl rfl rfl rfl (by kernel_rfl) Try.func6 (by kernel_rfl)
    (of_decide_eq_true (by kernel_rfl)) (by unfold Func.isWrapper; first | (rw [if_pos (by decide +kernel)]; kernel_rfl) | (rw [if_neg (by decide +kernel)]; exact ⟨rfl, rfl⟩))
    (fun os started H enc _ => lifted os started H enc)

theorem proved : Rows.WordUpSaid :=
  over
#print axioms proved

end Go.Proofs.Ytebkpcbajheciaa.wordUp
