/-
  The contracts of the plain answers of layer 1 (Add, Up at a power of two, Need, Words, Mix), and of both Hash.
  Conditions: numbers are of their own kind (0 to 2^64 - 1); a string has at most 100 bytes.
-/
import Derived.Test.YtkpopaadkfgjaaaWordB
import Derived.LoopTactic
import Derived.Deep.LoopGhost
namespace Go.Proofs.Ytkpopaadkfgjaaa
open Go.RowKit
set_option linter.unusedVariables false
set_option linter.unusedSimpArgs false

theorem ret_boolf {b : Bool} (h : b = false) : Ending.returned (.bool b) = .returned (.bool false) := by rw [h]

theorem radd_low (x y : Nat) (h : x + y < 18446744073709551616) (w : World) :
    Calls Try.prog 75 #[.int .u64 x, .int .u64 y] w fun e w' => e = .returned (.tuple #[.int .u64 ((x + y : Nat) : Int), .bool true]) ∧ w = w' := by
  go_enter Try.func75, Try.ntmps75
  go_wp2
  go_ret2
  exact ⟨rfl, rfl⟩
theorem radd_high (x y : Nat) (hx : x < 18446744073709551616) (hy : y < 18446744073709551616) (h : 18446744073709551616 ≤ x + y) (w : World) :
    Calls Try.prog 75 #[.int .u64 x, .int .u64 y] w fun e w' => e = .returned (.tuple #[.int .u64 0, .bool false]) ∧ w = w' := by
  go_enter Try.func75, Try.ntmps75
  go_wp2
  go_ret2
  exact ⟨rfl, rfl⟩
theorem rmix_any (x : Int) (w : World) :
    Calls Try.prog 67 #[.int .u64 x] w fun e w' => e = .returned (.int .u64 (IntKind.u64.wrap (x * 11400714819323198485))) ∧ w = w' := by
  go_enter Try.func67, Try.ntmps67
  go_wp2
  go_ret
  exact ⟨rfl, rfl⟩
/-! ### power -/
theorem power_yes (k a : Nat) (hk : k < 64) (ea : a = 2 ^ k) (w : World) :
    Calls Try.prog 82 #[.int .u64 a] w fun e w' => e = .returned (.bool true) ∧ w = w' := by
  have hb := pow_bounds k hk
  rw [← ea] at hb
  go_enter Try.func82, Try.ntmps82
  go_wp2
  go_loop [0] (fun i => ∃ m j : Nat, j < 64 ∧ m = 2 ^ j ∧ i = .int .u64 m) (fun i => (intOf i).toNat)
  case atStart => exact ⟨a, k, hk, ea, rfl⟩
  case round =>
    obtain ⟨m, j, hj, em, rfl⟩ := hrel
    have hm := pow_bounds j hj
    rw [← em] at hm
    by_cases h0 : m = 1
    · obtain rfl := h0
      clear em
      go_wp2
      go_ret
      exact ⟨rfl, rfl⟩
    · obtain ⟨i, rfl⟩ : ∃ i, j = i + 1 := ⟨j - 1, by
        rcases j with _ | j
        · exact absurd em h0
        · rfl⟩
      obtain ⟨q, hq⟩ : ∃ q, q = 2 ^ i := ⟨_, rfl⟩
      have hmq : m = 2 * q := by rw [em, hq, Nat.pow_succ, Nat.mul_comm]
      have e2 : (m : Int) % 2 = 0 := by omega
      have hgt : 1 < (m : Int) := by omega
      have HM := Lib.hid hmq
      have EM := Lib.hid em
      clear hmq em
      go_wp2
      go_round
      case rel => exact ⟨q, i, by omega, hq, by rw [HM.out]; exact congrArg (Value.int .u64) (by omega)⟩
      case measure => simp [intOf]; omega

theorem power_no (a : Nat) (ha : a < 18446744073709551616) (hno : ∀ k, a ≠ 2 ^ k) (w : World) :
    Calls Try.prog 82 #[.int .u64 a] w fun e w' => e = .returned (.bool false) ∧ w = w' := by
  have HN : Hid (∀ k, a ≠ 2 ^ k) := Lib.hid hno
  clear hno
  go_enter Try.func82, Try.ntmps82
  go_wp2
  go_loop [0] (fun i => ∃ m : Nat, m < 18446744073709551616 ∧ Hid (∀ k, m ≠ 2 ^ k) ∧ i = .int .u64 m) (fun i => (intOf i).toNat)
  case atStart => exact ⟨a, ha, HN, rfl⟩
  case round =>
    obtain ⟨m, hm, HM, rfl⟩ := hrel
    clear HN
    have h1 : ¬ ((m : Int) = 1) := by
      intro h
      exact HM.out 0 (by omega)
    by_cases hgt : 1 < (m : Int)
    · by_cases e2 : (m : Int) % 2 = 0
      · go_wp2
        go_round
        case rel => exact ⟨m / 2, by omega, Lib.hid (fun k hk => HM.out (k + 1) (by rw [Nat.pow_succ]; omega)), congrArg (Value.int .u64) (by omega)⟩
        case measure => simp [intOf]; omega
      · go_wp2
        go_ret
        exact ⟨ret_boolf (beq_eq_false_iff_ne.mpr h1), rfl⟩
    · go_wp2
      go_ret
      exact ⟨ret_boolf (beq_eq_false_iff_ne.mpr h1), rfl⟩

/-! ### Up -/
theorem up_div (n a : Nat) (hp : 1 ≤ a) (h : ¬ n % a = 0) : (n + (a - 1)) / a * a = n - n % a + a := by
  have hd := Nat.div_add_mod n a
  have hm := Nat.mod_lt n hp
  have e : n + (a - 1) = (n % a - 1) + (n / a + 1) * a := by rw [Nat.succ_mul, Nat.mul_comm (n / a) a]; omega
  rw [e, Nat.add_mul_div_right _ _ hp, Nat.div_eq_of_lt (by omega), Nat.zero_add, Nat.succ_mul, Nat.mul_comm (n / a) a]
  omega
theorem up_div0 (n a : Nat) (hp : 1 ≤ a) (h : n % a = 0) : (n + (a - 1)) / a * a = n := by
  have hd := Nat.div_add_mod n a
  have e : n + (a - 1) = (a - 1) + (n / a) * a := by rw [Nat.mul_comm (n / a) a]; omega
  rw [e, Nat.add_mul_div_right _ _ hp, Nat.div_eq_of_lt (by omega), Nat.zero_add, Nat.mul_comm (n / a) a]
  omega
theorem rup_core0 (n a : Nat) (hp : 1 ≤ a) (hn : n < 18446744073709551616) (ha : a < 18446744073709551616) (h0 : n % a = 0)
    (HP : ∀ w : World, Calls Try.prog 82 #[.int .u64 a] w fun e w' => e = .returned (.bool true) ∧ w = w') (w : World) :
    Calls Try.prog 76 #[.int .u64 n, .int .u64 a] w fun e w' => e = .returned (.tuple #[.int .u64 n, .bool true]) ∧ w = w' := by
  have h0' : (n : Int) % (a : Int) = 0 := by rw [← Int.natCast_emod, h0]; rfl
  clear h0
  go_enter Try.func76, Try.ntmps76
  go_wp2_with (first | (go_at_call 82; refine (HP _).mono ?_; rintro e w1 ⟨rfl, rfl⟩))
  go_ret2
  exact ⟨rfl, rfl⟩
theorem rup_core1 (n a r : Nat) (b : Bool) (hp : 1 ≤ a) (hn : n < 18446744073709551616) (ha : a < 18446744073709551616) (h0 : ¬ n % a = 0)
    (HP : ∀ w : World, Calls Try.prog 82 #[.int .u64 a] w fun e w' => e = .returned (.bool true) ∧ w = w')
    (HA : ∀ (x : Int) (w : World), x = ((n - n % a : Nat) : Int) → Calls Try.prog 75 #[.int .u64 x, .int .u64 a] w fun e w' => e = .returned (.tuple #[.int .u64 r, .bool b]) ∧ w = w') (w : World) :
    Calls Try.prog 76 #[.int .u64 n, .int .u64 a] w fun e w' => e = .returned (.tuple #[.int .u64 r, .bool b]) ∧ w = w' := by
  have hle := Nat.mod_le n a
  have h0' : ¬ (n : Int) % (a : Int) = 0 := by rw [← Int.natCast_emod]; omega
  have hx : (n : Int) - (n : Int) % (a : Int) = ((n - n % a : Nat) : Int) := by rw [Int.natCast_sub hle, Int.natCast_emod]
  have hb1 : 0 ≤ (n : Int) % (a : Int) := by rw [← Int.natCast_emod]; omega
  have hb2 : (n : Int) % (a : Int) ≤ n := by rw [← Int.natCast_emod]; omega
  have HX := Lib.hid hx
  clear h0 hx hle
  go_enter Try.func76, Try.ntmps76
  go_wp2_with (first | (go_at_call 82; refine (HP _).mono ?_; rintro e w1 ⟨rfl, rfl⟩) | (go_at_call 75; refine (HA _ _ HX.out).mono ?_; rintro e w1 ⟨rfl, rfl⟩))
  go_ret2
  exact ⟨rfl, rfl⟩
theorem rup_not (n a : Nat) (ha : a < 18446744073709551616) (hno : ∀ k, a ≠ 2 ^ k) (w : World) :
    Calls Try.prog 76 #[.int .u64 n, .int .u64 a] w fun e w' => e = .returned (.tuple #[.int .u64 0, .bool false]) ∧ w = w' := by
  have HP := Lib.hid hno
  clear hno
  go_enter Try.func76, Try.ntmps76
  go_wp2_with (first | (go_at_call 82; refine (power_no a ha HP.out _).mono ?_; rintro e w1 ⟨rfl, rfl⟩))
  go_ret2
  exact ⟨rfl, rfl⟩
theorem rup_pow_low (n k a : Nat) (hk : k < 64) (ea : a = 2 ^ k) (h : n + (a - 1) < 18446744073709551616) (w : World) :
    Calls Try.prog 76 #[.int .u64 n, .int .u64 a] w fun e w' => e = .returned (.tuple #[.int .u64 (((n + (a - 1)) / a * a : Nat) : Int), .bool true]) ∧ w = w' := by
  have hb := pow_bounds k hk
  rw [← ea] at hb
  by_cases h0 : n % a = 0
  · rw [up_div0 n a hb.1 h0]
    exact rup_core0 n a hb.1 (by omega) hb.2 h0 (power_yes k a hk ea) w
  · rw [up_div n a hb.1 h0]
    refine rup_core1 n a _ true hb.1 (by omega) hb.2 h0 (power_yes k a hk ea) (fun x w hx => ?_) w
    subst hx
    exact radd_low (n - n % a) a (by omega) w
/-- Where the multiple would be too large. -/
theorem over_pow (n k a : Nat) (hk : k < 64) (ea : a = 2 ^ k) (hn : n < 18446744073709551616) (h : 18446744073709551616 ≤ n + (a - 1)) : ¬ n % a = 0 ∧ 18446744073709551616 ≤ n - n % a + a := by
  have hb := pow_bounds k hk
  rw [← ea] at hb
  have hp : 18446744073709551616 = 2 ^ k * 2 ^ (64 - k) := by rw [← Nat.pow_add, show k + (64 - k) = 64 by omega]
  rw [← ea] at hp
  obtain ⟨c, ec⟩ : ∃ c, c = 2 ^ (64 - k) := ⟨_, rfl⟩
  rw [← ec] at hp
  have hd := Nat.div_add_mod n a
  have hm := Nat.mod_lt n hb.1
  obtain ⟨q, eq⟩ : ∃ q, q = n / a := ⟨_, rfl⟩
  rw [← eq] at hd
  have hqc : q < c := by
    rcases Nat.lt_or_ge q c with h' | h'
    · exact h'
    · have := Nat.mul_le_mul_left a h'
      omega
  have h1 := Nat.mul_le_mul_left a (Nat.succ_le_of_lt hqc)
  rw [Nat.mul_succ] at h1
  rcases Nat.lt_or_ge (q + 1) c with h2 | h2
  · have h3 := Nat.mul_le_mul_left a (Nat.succ_le_of_lt h2)
    rw [Nat.mul_succ, Nat.mul_succ] at h3
    omega
  · have h3 := Nat.mul_le_mul_left a h2
    rw [Nat.mul_succ] at h3
    omega
theorem rup_pow_high (n k a : Nat) (hn : n < 18446744073709551616) (hk : k < 64) (ea : a = 2 ^ k) (h : 18446744073709551616 ≤ n + (a - 1)) (w : World) :
    Calls Try.prog 76 #[.int .u64 n, .int .u64 a] w fun e w' => e = .returned (.tuple #[.int .u64 0, .bool false]) ∧ w = w' := by
  have hb := pow_bounds k hk
  rw [← ea] at hb
  have ho := over_pow n k a hk ea hn h
  refine rup_core1 n a 0 false hb.1 (by omega) hb.2 ho.1 (power_yes k a hk ea) (fun x w hx => ?_) w
  subst hx
  exact radd_high (n - n % a) a (by omega) hb.2 ho.2 w

end Go.Proofs.Ytkpopaadkfgjaaa
