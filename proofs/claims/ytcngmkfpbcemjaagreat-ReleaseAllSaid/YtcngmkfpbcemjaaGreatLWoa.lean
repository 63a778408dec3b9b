/-
  Texts of one layer, one behind the other: memory, contracts of the functions, and what follows of them.
  Conditions: as each theorem says.
-/
import Derived.Test.YtcngmkfpbcemjaaGreatProg
import Derived.WalkKit
import Derived.WalkSpells
import Derived.WalkLawsBesides
import Derived.Handy
import Derived.Laws.Externs
import Derived.KernelRfl
import Derived.Laws.BitsAll
import Derived.Lib.Hide
import Derived.LoopTactic
import Derived.Deep.LoopGhost
set_option linter.unusedVariables false
set_option linter.unusedSimpArgs false
namespace Go.Proofs.YtcngmkfpbcemjaaGreat
open Go.RowKit
theorem ret_int {k : IntKind} {a b : Int} (h : a = b) : Ending.returned (.int k a) = .returned (.int k b) := by rw [h]
theorem add64_at (x y : Nat) (w : World) :
    (callFunc 138 #[.int .u64 x, .int .u64 y, .int .u64 0]).run Tryz.prog w =
      .ok (.value (.tuple #[.int .u64 (((x + y) % 18446744073709551616 : Nat) : Int), .int .u64 (((x + y) / 18446744073709551616 : Nat) : Int)])) w := by
  rw [run_callFunc_extern Tryz.func138 (by kernel_rfl) (by kernel_rfl) (by kernel_rfl) (e := add64Entry) (by kernel_rfl), run_add64 x y 0 (by omega) (by omega) (by omega) (by omega)]
  simp only [Result.andThen]
  congr 5 <;> omega
theorem add64_low (x y : Nat) (h : x + y < 18446744073709551616) (w : World) :
    (callFunc 138 #[.int .u64 x, .int .u64 y, .int .u64 0]).run Tryz.prog w =
      .ok (.value (.tuple #[.int .u64 ((x + y : Nat) : Int), .int .u64 0])) w := by
  rw [add64_at, Nat.mod_eq_of_lt h, Nat.div_eq_of_lt h]; rfl
theorem add64_high (x y : Nat) (hx : x < 18446744073709551616) (hy : y < 18446744073709551616) (h : 18446744073709551616 ≤ x + y) (w : World) :
    (callFunc 138 #[.int .u64 x, .int .u64 y, .int .u64 0]).run Tryz.prog w =
      .ok (.value (.tuple #[.int .u64 (((x + y) % 18446744073709551616 : Nat) : Int), .int .u64 1])) w := by
  rw [add64_at]
  have : (x + y) / 18446744073709551616 = 1 := by omega
  rw [this]; rfl
theorem add_low (x y : Nat) (h : x + y < 18446744073709551616) (w : World) :
    Calls Tryz.prog 112 #[.int .u64 x, .int .u64 y] w fun e w' => e = .returned (.tuple #[.int .u64 ((x + y : Nat) : Int), .bool true]) ∧ w = w' := by
  have c64 := add64_low x y h
  go_enter Tryz.func112, Tryz.ntmps112
  go_wp2_with (simp only [c64])
  go_ret2
  exact ⟨rfl, rfl⟩
theorem add_high (x y : Nat) (hx : x < 18446744073709551616) (hy : y < 18446744073709551616) (h : 18446744073709551616 ≤ x + y) (w : World) :
    Calls Tryz.prog 112 #[.int .u64 x, .int .u64 y] w fun e w' => e = .returned (.tuple #[.int .u64 0, .bool false]) ∧ w = w' := by
  have c64 := add64_high x y hx hy h
  go_enter Tryz.func112, Tryz.ntmps112
  go_wp2_with (simp only [c64])
  go_ret2
  exact ⟨rfl, rfl⟩
theorem mix_any (x : Int) (w : World) :
    Calls Tryz.prog 111 #[.int .u64 x] w fun e w' => e = .returned (.int .u64 (IntKind.u64.wrap (x * 11400714819323198485))) ∧ w = w' := by
  go_enter Tryz.func111, Tryz.ntmps111
  go_wp2
  go_ret
  exact ⟨rfl, rfl⟩
theorem words_any (n : Nat) (hn : n < 18446744073709551616) (w : World) :
    Calls Tryz.prog 84 #[.int .u64 n] w fun e w' => e = .returned (.int .u64 (((n + 7) / 8 : Nat) : Int)) ∧ w = w' := by
  by_cases h : (n : Int) % 8 = 0
  · go_enter Tryz.func84, Tryz.ntmps84
    go_wp2
    go_ret
    exact ⟨ret_int (by omega), rfl⟩
  · go_enter Tryz.func84, Tryz.ntmps84
    go_wp2
    go_ret
    exact ⟨ret_int (by omega), rfl⟩
end Go.Proofs.YtcngmkfpbcemjaaGreat
namespace Go.Proofs.YtcngmkfpbcemjaaGreat
open Go.RowKit
theorem ret_pair {k : IntKind} {a b : Int} {v : Value} (h : a = b) : Ending.returned (.tuple #[.int k a, v]) = .returned (.tuple #[.int k b, v]) := by rw [h]
def ones1 (x : Int) : Int := IntKind.u64.wrap (bits .and .u64 (x / 2) 6148914691236517205 + bits .and .u64 x 6148914691236517205)
def ones2 (x : Int) : Int := IntKind.u64.wrap (bits .and .u64 (x / 4) 3689348814741910323 + bits .and .u64 x 3689348814741910323)
def ones3 (x : Int) : Int := bits .and .u64 (IntKind.u64.wrap (x / 16 + x)) 1085102592571150095
def ones4 (x : Int) : Int := IntKind.u64.wrap (x + x / 256)
def ones5 (x : Int) : Int := IntKind.u64.wrap (x + x / 65536)
def ones6 (x : Int) : Int := IntKind.u64.wrap (x + x / 4294967296)
def onesOf (x : Int) : Int := bits .and .i64 (wrap64 (ones6 (ones5 (ones4 (ones3 (ones2 (ones1 x))))))) 127
theorem ones_any (n : Nat) (hn : n < 18446744073709551616) (w : World) :
    Calls Tryz.prog 78 #[.int .u64 n] w fun e w' => e = .returned (.int .i64 (onesOf n)) ∧ w = w' := by
  go_enter Tryz.func78, Tryz.ntmps78
  go_wp2
  go_ret
  refine ⟨ret_int ?_, rfl⟩
  show _ = bits .and .i64 (wrap64 (ones6 (ones5 (ones4 (ones3 (ones2 (ones1 n))))))) 127
  simp only [ones6, ones5, ones4, ones3, ones2, ones1]
theorem onesp : ∀ k, k < 64 → onesOf ((2 ^ k : Nat) : Int) = 1 := by decide +kernel
theorem mask_pow (k x : Nat) (hk : k < 64) (hx : x < 18446744073709551616) : bits .andNot .u64 (x : Int) (((2 ^ k : Nat) : Int) - 1) = ((x / 2 ^ k * 2 ^ k : Nat) : Int) := by
  have hp : 1 ≤ 2 ^ k := Nat.one_le_two_pow
  have hl : 2 ^ k ≤ 2 ^ 63 := Nat.pow_le_pow_right (by decide) (by omega)
  have e : ((2 ^ k : Nat) : Int) - 1 = ((2 ^ k - 1 : Nat) : Int) := by omega
  have e2 : 18446744073709551615 - (2 ^ k - 1) = 18446744073709551616 - 2 ^ k := by omega
  rw [e, u64_andNot_nat x _ hx (by omega), e2]
  have h := nat_midmask 64 k x (by omega)
  have e3 : (2 ^ 64 : Nat) = 18446744073709551616 := by decide
  rw [e3, Nat.mod_eq_of_lt hx] at h
  rw [h]
theorem up_low (n a : Nat) (h1 : onesOf a = 1) (hp : 1 ≤ a) (ha : a < 18446744073709551616) (h : n + (a - 1) < 18446744073709551616) (q : Nat) (hq : bits .andNot .u64 ((n : Int) + ((a - 1 : Nat) : Int)) ((a : Int) - 1) = (q : Int)) (w : World) :
    Calls Tryz.prog 113 #[.int .u64 n, .int .u64 a] w fun e w' => e = .returned (.tuple #[.int .u64 q, .bool true]) ∧ w = w' := by
  have hb : (onesOf (a : Int) != 1) = false := by rw [h1]; rfl
  have H1 := Lib.hid h1
  clear h1
  have HQ := Lib.hid hq
  clear hq
  have e1 : (a : Int) - 1 = ((a - 1 : Nat) : Int) := by omega
  have E1 := Lib.hid e1
  clear e1
  go_enter Tryz.func113, Tryz.ntmps113
  go_wp2_with (first | (go_at_call 78; refine (ones_any a ha _).mono ?_; rintro e w' ⟨rfl, rfl⟩) | (go_at_call 112; rw [E1.out]; refine (add_low n (a - 1) h _).mono ?_; rintro e w' ⟨rfl, rfl⟩))
  go_ret2
  exact ⟨ret_pair HQ.out, rfl⟩
theorem up_high (n a : Nat) (hn : n < 18446744073709551616) (h1 : onesOf a = 1) (hp : 1 ≤ a) (ha : a < 18446744073709551616) (h : 18446744073709551616 ≤ n + (a - 1)) (w : World) :
    Calls Tryz.prog 113 #[.int .u64 n, .int .u64 a] w fun e w' => e = .returned (.tuple #[.int .u64 0, .bool false]) ∧ w = w' := by
  have hb : (onesOf (a : Int) != 1) = false := by rw [h1]; rfl
  have H1 := Lib.hid h1
  clear h1
  have e1 : (a : Int) - 1 = ((a - 1 : Nat) : Int) := by omega
  have E1 := Lib.hid e1
  clear e1
  go_enter Tryz.func113, Tryz.ntmps113
  go_wp2_with (first | (go_at_call 78; refine (ones_any a ha _).mono ?_; rintro e w' ⟨rfl, rfl⟩) | (go_at_call 112; rw [E1.out]; refine (add_high n (a - 1) hn (by omega) h _).mono ?_; rintro e w' ⟨rfl, rfl⟩))
  go_ret2
  exact ⟨rfl, rfl⟩
theorem pow_bounds (k : Nat) (hk : k < 64) : 1 ≤ 2 ^ k ∧ 2 ^ k < 18446744073709551616 := by
  have hp : 1 ≤ 2 ^ k := Nat.one_le_two_pow
  have hl : 2 ^ k ≤ 2 ^ 63 := Nat.pow_le_pow_right (by decide) (by omega)
  exact ⟨hp, by omega⟩
theorem up_pow_low (n k a : Nat) (hk : k < 64) (ea : a = 2 ^ k) (h : n + (a - 1) < 18446744073709551616) (w : World) :
    Calls Tryz.prog 113 #[.int .u64 n, .int .u64 a] w fun e w' => e = .returned (.tuple #[.int .u64 (((n + (a - 1)) / a * a : Nat) : Int), .bool true]) ∧ w = w' := by
  have hb := pow_bounds k hk
  have hm := mask_pow k (n + (a - 1)) hk h
  rw [← ea] at hm hb
  have h1 := onesp k hk
  rw [← ea] at h1
  exact up_low n a h1 hb.1 hb.2 h _ (by rw [← hm, Int.natCast_add]) w
theorem up_pow_high (n k a : Nat) (hn : n < 18446744073709551616) (hk : k < 64) (ea : a = 2 ^ k) (h : 18446744073709551616 ≤ n + (a - 1)) (w : World) :
    Calls Tryz.prog 113 #[.int .u64 n, .int .u64 a] w fun e w' => e = .returned (.tuple #[.int .u64 0, .bool false]) ∧ w = w' := by
  have hb := pow_bounds k hk
  rw [← ea] at hb
  have h1 := onesp k hk
  rw [← ea] at h1
  exact up_high n a hn h1 hb.1 hb.2 h w
theorem need_small (n : Nat) (h : n < 8) (w : World) :
    Calls Tryz.prog 67 #[.int .u64 n] w fun e w' => e = .returned (.tuple #[.int .u64 48, .bool true]) ∧ w = w' := by
  go_enter Tryz.func67, Tryz.ntmps67
  go_wp2_with (first | (go_at_call 112; refine (add_low 8 40 (by decide) _).mono ?_; rintro e w' ⟨rfl, rfl⟩) | (go_at_call 113; refine (up_pow_low 48 4 16 (by decide) (by decide) (by decide) _).mono ?_; rintro e w' ⟨rfl, rfl⟩))
  go_ret2
  exact ⟨rfl, rfl⟩
theorem need_low (n : Nat) (h8 : 8 ≤ n) (h : n + 55 < 18446744073709551616) (w : World) :
    Calls Tryz.prog 67 #[.int .u64 n] w fun e w' => e = .returned (.tuple #[.int .u64 (((n + 55) / 16 * 16 : Nat) : Int), .bool true]) ∧ w = w' := by
  go_enter Tryz.func67, Tryz.ntmps67
  go_wp2_with (first | (go_at_call 112; refine (add_low n 40 (by omega) _).mono ?_; rintro e w' ⟨rfl, rfl⟩) | (go_at_call 113; refine (up_pow_low (n + 40) 4 16 (by decide) (by decide) (by omega) _).mono ?_; rintro e w' ⟨rfl, rfl⟩))
  go_ret2
  exact ⟨ret_pair (by omega), rfl⟩
theorem need_high (n : Nat) (hn : n < 18446744073709551616) (h : 18446744073709551616 ≤ n + 55) (w : World) :
    Calls Tryz.prog 67 #[.int .u64 n] w fun e w' => e = .returned (.tuple #[.int .u64 0, .bool false]) ∧ w = w' := by
  rcases Nat.lt_or_ge (n + 40) 18446744073709551616 with h4 | h4
  · go_enter Tryz.func67, Tryz.ntmps67
    go_wp2_with (first | (go_at_call 112; refine (add_low n 40 (by omega) _).mono ?_; rintro e w' ⟨rfl, rfl⟩) | (go_at_call 113; refine (up_pow_high (n + 40) 4 16 (by omega) (by decide) (by decide) (by omega) _).mono ?_; rintro e w' ⟨rfl, rfl⟩))
    go_ret2
    exact ⟨rfl, rfl⟩
  · go_enter Tryz.func67, Tryz.ntmps67
    go_wp2_with (first | (go_at_call 112; refine (add_high n 40 (by omega) (by decide) (by omega) _).mono ?_; rintro e w' ⟨rfl, rfl⟩))
    go_ret2
    exact ⟨rfl, rfl⟩
def needOf (n : Nat) : Nat := if n < 8 then 48 else (n + 55) / 16 * 16
theorem need_fits (n : Nat) (h : n + 55 < 18446744073709551616) (w : World) :
    Calls Tryz.prog 67 #[.int .u64 n] w fun e w' => e = .returned (.tuple #[.int .u64 (needOf n : Nat), .bool true]) ∧ w = w' := by
  unfold needOf
  by_cases h8 : n < 8
  · rw [if_pos h8]; exact need_small n h8 w
  · rw [if_neg h8]; exact need_low n (by omega) h w
end Go.Proofs.YtcngmkfpbcemjaaGreat
namespace Go.Proofs.YtcngmkfpbcemjaaGreat
open Go.RowKit
theorem ret_boolf {b : Bool} (h : b = false) : Ending.returned (.bool b) = .returned (.bool false) := by rw [h]
theorem radd_low (x y : Nat) (h : x + y < 18446744073709551616) (w : World) :
    Calls Tryz.prog 75 #[.int .u64 x, .int .u64 y] w fun e w' => e = .returned (.tuple #[.int .u64 ((x + y : Nat) : Int), .bool true]) ∧ w = w' := by
  go_enter Tryz.func75, Tryz.ntmps75
  go_wp2
  go_ret2
  exact ⟨rfl, rfl⟩
theorem radd_high (x y : Nat) (hx : x < 18446744073709551616) (hy : y < 18446744073709551616) (h : 18446744073709551616 ≤ x + y) (w : World) :
    Calls Tryz.prog 75 #[.int .u64 x, .int .u64 y] w fun e w' => e = .returned (.tuple #[.int .u64 0, .bool false]) ∧ w = w' := by
  go_enter Tryz.func75, Tryz.ntmps75
  go_wp2
  go_ret2
  exact ⟨rfl, rfl⟩
theorem rmix_any (x : Int) (w : World) :
    Calls Tryz.prog 130 #[.int .u64 x] w fun e w' => e = .returned (.int .u64 (IntKind.u64.wrap (x * 11400714819323198485))) ∧ w = w' := by
  go_enter Tryz.func130, Tryz.ntmps130
  go_wp2
  go_ret
  exact ⟨rfl, rfl⟩
theorem power_yes (k a : Nat) (hk : k < 64) (ea : a = 2 ^ k) (w : World) :
    Calls Tryz.prog 117 #[.int .u64 a] w fun e w' => e = .returned (.bool true) ∧ w = w' := by
  have hb := pow_bounds k hk
  rw [← ea] at hb
  go_enter Tryz.func117, Tryz.ntmps117
  go_wp2
  go_loop [0] (fun i => ∃ m j : Nat, j < 64 ∧ m = 2 ^ j ∧ i = .int .u64 m) (fun i => (intOf i).toNat)
  case atStart => exact ⟨a, k, hk, ea, rfl⟩
  case round =>
    obtain ⟨m, j, hj, em, rfl⟩ := hrel
    have hm := pow_bounds j hj
    rw [← em] at hm
    by_cases h0 : m = 1
    · obtain rfl := h0
      clear em
      go_wp2
      go_ret
      exact ⟨rfl, rfl⟩
    · obtain ⟨i, rfl⟩ : ∃ i, j = i + 1 := ⟨j - 1, by
        rcases j with _ | j
        · exact absurd em h0
        · rfl⟩
      obtain ⟨q, hq⟩ : ∃ q, q = 2 ^ i := ⟨_, rfl⟩
      have hmq : m = 2 * q := by rw [em, hq, Nat.pow_succ, Nat.mul_comm]
      have e2 : (m : Int) % 2 = 0 := by omega
      have hgt : 1 < (m : Int) := by omega
      have HM := Lib.hid hmq
      have EM := Lib.hid em
      clear hmq em
      go_wp2
      go_round
      case rel => exact ⟨q, i, by omega, hq, by rw [HM.out]; exact congrArg (Value.int .u64) (by omega)⟩
      case measure => simp [intOf]; omega
theorem power_no (a : Nat) (ha : a < 18446744073709551616) (hno : ∀ k, a ≠ 2 ^ k) (w : World) :
    Calls Tryz.prog 117 #[.int .u64 a] w fun e w' => e = .returned (.bool false) ∧ w = w' := by
  have HN : Hid (∀ k, a ≠ 2 ^ k) := Lib.hid hno
  clear hno
  go_enter Tryz.func117, Tryz.ntmps117
  go_wp2
  go_loop [0] (fun i => ∃ m : Nat, m < 18446744073709551616 ∧ Hid (∀ k, m ≠ 2 ^ k) ∧ i = .int .u64 m) (fun i => (intOf i).toNat)
  case atStart => exact ⟨a, ha, HN, rfl⟩
  case round =>
    obtain ⟨m, hm, HM, rfl⟩ := hrel
    clear HN
    have h1 : ¬ ((m : Int) = 1) := by
      intro h
      exact HM.out 0 (by omega)
    by_cases hgt : 1 < (m : Int)
    · by_cases e2 : (m : Int) % 2 = 0
      · go_wp2
        go_round
        case rel => exact ⟨m / 2, by omega, Lib.hid (fun k hk => HM.out (k + 1) (by rw [Nat.pow_succ]; omega)), congrArg (Value.int .u64) (by omega)⟩
        case measure => simp [intOf]; omega
      · go_wp2
        go_ret
        exact ⟨ret_boolf (beq_eq_false_iff_ne.mpr h1), rfl⟩
    · go_wp2
      go_ret
      exact ⟨ret_boolf (beq_eq_false_iff_ne.mpr h1), rfl⟩
theorem up_div (n a : Nat) (hp : 1 ≤ a) (h : ¬ n % a = 0) : (n + (a - 1)) / a * a = n - n % a + a := by
  have hd := Nat.div_add_mod n a
  have hm := Nat.mod_lt n hp
  have e : n + (a - 1) = (n % a - 1) + (n / a + 1) * a := by rw [Nat.succ_mul, Nat.mul_comm (n / a) a]; omega
  rw [e, Nat.add_mul_div_right _ _ hp, Nat.div_eq_of_lt (by omega), Nat.zero_add, Nat.succ_mul, Nat.mul_comm (n / a) a]
  omega
theorem up_div0 (n a : Nat) (hp : 1 ≤ a) (h : n % a = 0) : (n + (a - 1)) / a * a = n := by
  have hd := Nat.div_add_mod n a
  have e : n + (a - 1) = (a - 1) + (n / a) * a := by rw [Nat.mul_comm (n / a) a]; omega
  rw [e, Nat.add_mul_div_right _ _ hp, Nat.div_eq_of_lt (by omega), Nat.zero_add, Nat.mul_comm (n / a) a]
  omega
theorem rup_core0 (n a : Nat) (hp : 1 ≤ a) (hn : n < 18446744073709551616) (ha : a < 18446744073709551616) (h0 : n % a = 0)
    (HP : ∀ w : World, Calls Tryz.prog 117 #[.int .u64 a] w fun e w' => e = .returned (.bool true) ∧ w = w') (w : World) :
    Calls Tryz.prog 76 #[.int .u64 n, .int .u64 a] w fun e w' => e = .returned (.tuple #[.int .u64 n, .bool true]) ∧ w = w' := by
  have h0' : (n : Int) % (a : Int) = 0 := by rw [← Int.natCast_emod, h0]; rfl
  clear h0
  go_enter Tryz.func76, Tryz.ntmps76
  go_wp2_with (first | (go_at_call 117; refine (HP _).mono ?_; rintro e w1 ⟨rfl, rfl⟩))
  go_ret2
  exact ⟨rfl, rfl⟩
theorem rup_core1 (n a r : Nat) (b : Bool) (hp : 1 ≤ a) (hn : n < 18446744073709551616) (ha : a < 18446744073709551616) (h0 : ¬ n % a = 0)
    (HP : ∀ w : World, Calls Tryz.prog 117 #[.int .u64 a] w fun e w' => e = .returned (.bool true) ∧ w = w')
    (HA : ∀ (x : Int) (w : World), x = ((n - n % a : Nat) : Int) → Calls Tryz.prog 75 #[.int .u64 x, .int .u64 a] w fun e w' => e = .returned (.tuple #[.int .u64 r, .bool b]) ∧ w = w') (w : World) :
    Calls Tryz.prog 76 #[.int .u64 n, .int .u64 a] w fun e w' => e = .returned (.tuple #[.int .u64 r, .bool b]) ∧ w = w' := by
  have hle := Nat.mod_le n a
  have h0' : ¬ (n : Int) % (a : Int) = 0 := by rw [← Int.natCast_emod]; omega
  have hx : (n : Int) - (n : Int) % (a : Int) = ((n - n % a : Nat) : Int) := by rw [Int.natCast_sub hle, Int.natCast_emod]
  have hb1 : 0 ≤ (n : Int) % (a : Int) := by rw [← Int.natCast_emod]; omega
  have hb2 : (n : Int) % (a : Int) ≤ n := by rw [← Int.natCast_emod]; omega
  have HX := Lib.hid hx
  clear h0 hx hle
  go_enter Tryz.func76, Tryz.ntmps76
  go_wp2_with (first | (go_at_call 117; refine (HP _).mono ?_; rintro e w1 ⟨rfl, rfl⟩) | (go_at_call 75; refine (HA _ _ HX.out).mono ?_; rintro e w1 ⟨rfl, rfl⟩))
  go_ret2
  exact ⟨rfl, rfl⟩
theorem rup_not (n a : Nat) (ha : a < 18446744073709551616) (hno : ∀ k, a ≠ 2 ^ k) (w : World) :
    Calls Tryz.prog 76 #[.int .u64 n, .int .u64 a] w fun e w' => e = .returned (.tuple #[.int .u64 0, .bool false]) ∧ w = w' := by
  have HP := Lib.hid hno
  clear hno
  go_enter Tryz.func76, Tryz.ntmps76
  go_wp2_with (first | (go_at_call 117; refine (power_no a ha HP.out _).mono ?_; rintro e w1 ⟨rfl, rfl⟩))
  go_ret2
  exact ⟨rfl, rfl⟩
theorem rup_pow_low (n k a : Nat) (hk : k < 64) (ea : a = 2 ^ k) (h : n + (a - 1) < 18446744073709551616) (w : World) :
    Calls Tryz.prog 76 #[.int .u64 n, .int .u64 a] w fun e w' => e = .returned (.tuple #[.int .u64 (((n + (a - 1)) / a * a : Nat) : Int), .bool true]) ∧ w = w' := by
  have hb := pow_bounds k hk
  rw [← ea] at hb
  by_cases h0 : n % a = 0
  · rw [up_div0 n a hb.1 h0]
    exact rup_core0 n a hb.1 (by omega) hb.2 h0 (power_yes k a hk ea) w
  · rw [up_div n a hb.1 h0]
    refine rup_core1 n a _ true hb.1 (by omega) hb.2 h0 (power_yes k a hk ea) (fun x w hx => ?_) w
    subst hx
    exact radd_low (n - n % a) a (by omega) w
theorem over_pow (n k a : Nat) (hk : k < 64) (ea : a = 2 ^ k) (hn : n < 18446744073709551616) (h : 18446744073709551616 ≤ n + (a - 1)) : ¬ n % a = 0 ∧ 18446744073709551616 ≤ n - n % a + a := by
  have hb := pow_bounds k hk
  rw [← ea] at hb
  have hp : 18446744073709551616 = 2 ^ k * 2 ^ (64 - k) := by rw [← Nat.pow_add, show k + (64 - k) = 64 by omega]
  rw [← ea] at hp
  obtain ⟨c, ec⟩ : ∃ c, c = 2 ^ (64 - k) := ⟨_, rfl⟩
  rw [← ec] at hp
  have hd := Nat.div_add_mod n a
  have hm := Nat.mod_lt n hb.1
  obtain ⟨q, eq⟩ : ∃ q, q = n / a := ⟨_, rfl⟩
  rw [← eq] at hd
  have hqc : q < c := by
    rcases Nat.lt_or_ge q c with h' | h'
    · exact h'
    · have := Nat.mul_le_mul_left a h'
      omega
  have h1 := Nat.mul_le_mul_left a (Nat.succ_le_of_lt hqc)
  rw [Nat.mul_succ] at h1
  rcases Nat.lt_or_ge (q + 1) c with h2 | h2
  · have h3 := Nat.mul_le_mul_left a (Nat.succ_le_of_lt h2)
    rw [Nat.mul_succ, Nat.mul_succ] at h3
    omega
  · have h3 := Nat.mul_le_mul_left a h2
    rw [Nat.mul_succ] at h3
    omega
theorem rup_pow_high (n k a : Nat) (hn : n < 18446744073709551616) (hk : k < 64) (ea : a = 2 ^ k) (h : 18446744073709551616 ≤ n + (a - 1)) (w : World) :
    Calls Tryz.prog 76 #[.int .u64 n, .int .u64 a] w fun e w' => e = .returned (.tuple #[.int .u64 0, .bool false]) ∧ w = w' := by
  have hb := pow_bounds k hk
  rw [← ea] at hb
  have ho := over_pow n k a hk ea hn h
  refine rup_core1 n a 0 false hb.1 (by omega) hb.2 ho.1 (power_yes k a hk ea) (fun x w hx => ?_) w
  subst hx
  exact radd_high (n - n % a) a (by omega) hb.2 ho.2 w
end Go.Proofs.YtcngmkfpbcemjaaGreat
