/-
  The contracts of package word's functions that take bits apart: OnesCount64 (its steps), Up at a power of two and at none, Need.
  Conditions: the arguments are numbers of their own kind (0 to 2^64 - 1).
-/
import Derived.Test.YtebkpcbajheciaaWordA
import Derived.Laws.BitsAll
import Derived.Lib.Hide
namespace Go.Proofs.Ytebkpcbajheciaa
open Go.RowKit
set_option linter.unusedVariables false
set_option linter.unusedSimpArgs false

/-! ### OnesCount64: the library's text, step by step -/
theorem ret_pair {k : IntKind} {a b : Int} {v : Value} (h : a = b) : Ending.returned (.tuple #[.int k a, v]) = .returned (.tuple #[.int k b, v]) := by rw [h]

def ones1 (x : Int) : Int := IntKind.u64.wrap (bits .and .u64 (x / 2) 6148914691236517205 + bits .and .u64 x 6148914691236517205)
def ones2 (x : Int) : Int := IntKind.u64.wrap (bits .and .u64 (x / 4) 3689348814741910323 + bits .and .u64 x 3689348814741910323)
def ones3 (x : Int) : Int := bits .and .u64 (IntKind.u64.wrap (x / 16 + x)) 1085102592571150095
def ones4 (x : Int) : Int := IntKind.u64.wrap (x + x / 256)
def ones5 (x : Int) : Int := IntKind.u64.wrap (x + x / 65536)
def ones6 (x : Int) : Int := IntKind.u64.wrap (x + x / 4294967296)
def onesOf (x : Int) : Int := bits .and .i64 (wrap64 (ones6 (ones5 (ones4 (ones3 (ones2 (ones1 x))))))) 127
theorem ones_any (n : Nat) (hn : n < 18446744073709551616) (w : World) :
    Calls Try.prog 30 #[.int .u64 n] w fun e w' => e = .returned (.int .i64 (onesOf n)) ∧ w = w' := by
  go_enter Try.func30, Try.ntmps30
  go_wp2
  go_ret
  refine ⟨ret_int ?_, rfl⟩
  show _ = bits .and .i64 (wrap64 (ones6 (ones5 (ones4 (ones3 (ones2 (ones1 n))))))) 127
  simp only [ones6, ones5, ones4, ones3, ones2, ones1]
theorem onesp : ∀ k, k < 64 → onesOf ((2 ^ k : Nat) : Int) = 1 := by decide +kernel

/-! ### Up -/
theorem mask_pow (k x : Nat) (hk : k < 64) (hx : x < 18446744073709551616) : bits .andNot .u64 (x : Int) (((2 ^ k : Nat) : Int) - 1) = ((x / 2 ^ k * 2 ^ k : Nat) : Int) := by
  have hp : 1 ≤ 2 ^ k := Nat.one_le_two_pow
  have hl : 2 ^ k ≤ 2 ^ 63 := Nat.pow_le_pow_right (by decide) (by omega)
  have e : ((2 ^ k : Nat) : Int) - 1 = ((2 ^ k - 1 : Nat) : Int) := by omega
  have e2 : 18446744073709551615 - (2 ^ k - 1) = 18446744073709551616 - 2 ^ k := by omega
  rw [e, u64_andNot_nat x _ hx (by omega), e2]
  have h := nat_midmask 64 k x (by omega)
  have e3 : (2 ^ 64 : Nat) = 18446744073709551616 := by decide
  rw [e3, Nat.mod_eq_of_lt hx] at h
  rw [h]

theorem up_low (n a : Nat) (h1 : onesOf a = 1) (hp : 1 ≤ a) (ha : a < 18446744073709551616) (h : n + (a - 1) < 18446744073709551616) (q : Nat) (hq : bits .andNot .u64 ((n : Int) + ((a - 1 : Nat) : Int)) ((a : Int) - 1) = (q : Int)) (w : World) :
    Calls Try.prog 14 #[.int .u64 n, .int .u64 a] w fun e w' => e = .returned (.tuple #[.int .u64 q, .bool true]) ∧ w = w' := by
  have hb : (onesOf (a : Int) != 1) = false := by rw [h1]; rfl
  have H1 := Lib.hid h1
  clear h1
  have HQ := Lib.hid hq
  clear hq
  have e1 : (a : Int) - 1 = ((a - 1 : Nat) : Int) := by omega
  have E1 := Lib.hid e1
  clear e1
  go_enter Try.func14, Try.ntmps14
  go_wp2_with (first | (go_at_call 30; refine (ones_any a ha _).mono ?_; rintro e w' ⟨rfl, rfl⟩) | (go_at_call 10; rw [E1.out]; refine (add_low n (a - 1) h _).mono ?_; rintro e w' ⟨rfl, rfl⟩))
  go_ret2
  exact ⟨ret_pair HQ.out, rfl⟩

theorem up_high (n a : Nat) (hn : n < 18446744073709551616) (h1 : onesOf a = 1) (hp : 1 ≤ a) (ha : a < 18446744073709551616) (h : 18446744073709551616 ≤ n + (a - 1)) (w : World) :
    Calls Try.prog 14 #[.int .u64 n, .int .u64 a] w fun e w' => e = .returned (.tuple #[.int .u64 0, .bool false]) ∧ w = w' := by
  have hb : (onesOf (a : Int) != 1) = false := by rw [h1]; rfl
  have H1 := Lib.hid h1
  clear h1
  have e1 : (a : Int) - 1 = ((a - 1 : Nat) : Int) := by omega
  have E1 := Lib.hid e1
  clear e1
  go_enter Try.func14, Try.ntmps14
  go_wp2_with (first | (go_at_call 30; refine (ones_any a ha _).mono ?_; rintro e w' ⟨rfl, rfl⟩) | (go_at_call 10; rw [E1.out]; refine (add_high n (a - 1) hn (by omega) h _).mono ?_; rintro e w' ⟨rfl, rfl⟩))
  go_ret2
  exact ⟨rfl, rfl⟩

/-- Up at no power of two. -/
theorem up_not (n a : Nat) (ha : a < 18446744073709551616) (h1 : onesOf a ≠ 1) (w : World) :
    Calls Try.prog 14 #[.int .u64 n, .int .u64 a] w fun e w' => e = .returned (.tuple #[.int .u64 0, .bool false]) ∧ w = w' := by
  have hb : (onesOf (a : Int) != 1) = true := by simpa using h1
  clear h1
  go_enter Try.func14, Try.ntmps14
  go_wp2_with (first | (go_at_call 30; refine (ones_any a ha _).mono ?_; rintro e w' ⟨rfl, rfl⟩))
  go_ret2
  exact ⟨rfl, rfl⟩

theorem pow_bounds (k : Nat) (hk : k < 64) : 1 ≤ 2 ^ k ∧ 2 ^ k < 18446744073709551616 := by
  have hp : 1 ≤ 2 ^ k := Nat.one_le_two_pow
  have hl : 2 ^ k ≤ 2 ^ 63 := Nat.pow_le_pow_right (by decide) (by omega)
  exact ⟨hp, by omega⟩

/-- Up at a power of two, not too large. -/
theorem up_pow_low (n k a : Nat) (hk : k < 64) (ea : a = 2 ^ k) (h : n + (a - 1) < 18446744073709551616) (w : World) :
    Calls Try.prog 14 #[.int .u64 n, .int .u64 a] w fun e w' => e = .returned (.tuple #[.int .u64 (((n + (a - 1)) / a * a : Nat) : Int), .bool true]) ∧ w = w' := by
  have hb := pow_bounds k hk
  have hm := mask_pow k (n + (a - 1)) hk h
  rw [← ea] at hm hb
  have h1 := onesp k hk
  rw [← ea] at h1
  exact up_low n a h1 hb.1 hb.2 h _ (by rw [← hm, Int.natCast_add]) w

theorem up_pow_high (n k a : Nat) (hn : n < 18446744073709551616) (hk : k < 64) (ea : a = 2 ^ k) (h : 18446744073709551616 ≤ n + (a - 1)) (w : World) :
    Calls Try.prog 14 #[.int .u64 n, .int .u64 a] w fun e w' => e = .returned (.tuple #[.int .u64 0, .bool false]) ∧ w = w' := by
  have hb := pow_bounds k hk
  rw [← ea] at hb
  have h1 := onesp k hk
  rw [← ea] at h1
  exact up_high n a hn h1 hb.1 hb.2 h w

/-! ### Need -/
theorem need_small (n : Nat) (h : n < 8) (w : World) :
    Calls Try.prog 16 #[.int .u64 n] w fun e w' => e = .returned (.tuple #[.int .u64 48, .bool true]) ∧ w = w' := by
  go_enter Try.func16, Try.ntmps16
  go_wp2_with (first | (go_at_call 10; refine (add_low 8 40 (by decide) _).mono ?_; rintro e w' ⟨rfl, rfl⟩) | (go_at_call 14; refine (up_pow_low 48 4 16 (by decide) (by decide) (by decide) _).mono ?_; rintro e w' ⟨rfl, rfl⟩))
  go_ret2
  exact ⟨rfl, rfl⟩
theorem need_low (n : Nat) (h8 : 8 ≤ n) (h : n + 55 < 18446744073709551616) (w : World) :
    Calls Try.prog 16 #[.int .u64 n] w fun e w' => e = .returned (.tuple #[.int .u64 (((n + 55) / 16 * 16 : Nat) : Int), .bool true]) ∧ w = w' := by
  go_enter Try.func16, Try.ntmps16
  go_wp2_with (first | (go_at_call 10; refine (add_low n 40 (by omega) _).mono ?_; rintro e w' ⟨rfl, rfl⟩) | (go_at_call 14; refine (up_pow_low (n + 40) 4 16 (by decide) (by decide) (by omega) _).mono ?_; rintro e w' ⟨rfl, rfl⟩))
  go_ret2
  exact ⟨ret_pair (by omega), rfl⟩
theorem need_high (n : Nat) (hn : n < 18446744073709551616) (h : 18446744073709551616 ≤ n + 55) (w : World) :
    Calls Try.prog 16 #[.int .u64 n] w fun e w' => e = .returned (.tuple #[.int .u64 0, .bool false]) ∧ w = w' := by
  rcases Nat.lt_or_ge (n + 40) 18446744073709551616 with h4 | h4
  · go_enter Try.func16, Try.ntmps16
    go_wp2_with (first | (go_at_call 10; refine (add_low n 40 (by omega) _).mono ?_; rintro e w' ⟨rfl, rfl⟩) | (go_at_call 14; refine (up_pow_high (n + 40) 4 16 (by omega) (by decide) (by decide) (by omega) _).mono ?_; rintro e w' ⟨rfl, rfl⟩))
    go_ret2
    exact ⟨rfl, rfl⟩
  · go_enter Try.func16, Try.ntmps16
    go_wp2_with (first | (go_at_call 10; refine (add_high n 40 (by omega) (by decide) (by omega) _).mono ?_; rintro e w' ⟨rfl, rfl⟩))
    go_ret2
    exact ⟨rfl, rfl⟩

/-- How large a block of n bytes is. -/
def needOf (n : Nat) : Nat := if n < 8 then 48 else (n + 55) / 16 * 16
theorem need_fits (n : Nat) (h : n + 55 < 18446744073709551616) (w : World) :
    Calls Try.prog 16 #[.int .u64 n] w fun e w' => e = .returned (.tuple #[.int .u64 (needOf n : Nat), .bool true]) ∧ w = w' := by
  unfold needOf
  by_cases h8 : n < 8
  · rw [if_pos h8]; exact need_small n h8 w
  · rw [if_neg h8]; exact need_low n (by omega) h w

end Go.Proofs.Ytebkpcbajheciaa
