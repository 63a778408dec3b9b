/-
  The contracts of package word's functions that take bits apart: OnesCount64 (its steps), Up at a power of two and at none, Need.
  Conditions: the arguments are numbers of their own kind (0 to 2^64 - 1).
-/
import Derived.Test.YtkpopaadkfgjaaaWordA
import Derived.Laws.BitsAll
import Derived.Lib.Hide
namespace Go.Proofs.Ytkpopaadkfgjaaa
open Go.RowKit
set_option linter.unusedVariables false
set_option linter.unusedSimpArgs false

/-! ### OnesCount64: the library's text, step by step -/
theorem ret_pair {k : IntKind} {a b : Int} {v : Value} (h : a = b) : Ending.returned (.tuple #[.int k a, v]) = .returned (.tuple #[.int k b, v]) := by rw [h]

def ones1 (x : Int) : Int := IntKind.u64.wrap (bits .and .u64 (x / 2) 6148914691236517205 + bits .and .u64 x 6148914691236517205)
def ones2 (x : Int) : Int := IntKind.u64.wrap (bits .and .u64 (x / 4) 3689348814741910323 + bits .and .u64 x 3689348814741910323)
def ones3 (x : Int) : Int := bits .and .u64 (IntKind.u64.wrap (x / 16 + x)) 1085102592571150095
def ones4 (x : Int) : Int := IntKind.u64.wrap (x + x / 256)
def ones5 (x : Int) : Int := IntKind.u64.wrap (x + x / 65536)
def ones6 (x : Int) : Int := IntKind.u64.wrap (x + x / 4294967296)
def onesOf (x : Int) : Int := bits .and .i64 (wrap64 (ones6 (ones5 (ones4 (ones3 (ones2 (ones1 x))))))) 127
theorem onesp : ∀ k, k < 64 → onesOf ((2 ^ k : Nat) : Int) = 1 := by decide +kernel

/-! ### Up -/
theorem mask_pow (k x : Nat) (hk : k < 64) (hx : x < 18446744073709551616) : bits .andNot .u64 (x : Int) (((2 ^ k : Nat) : Int) - 1) = ((x / 2 ^ k * 2 ^ k : Nat) : Int) := by
  have hp : 1 ≤ 2 ^ k := Nat.one_le_two_pow
  have hl : 2 ^ k ≤ 2 ^ 63 := Nat.pow_le_pow_right (by decide) (by omega)
  have e : ((2 ^ k : Nat) : Int) - 1 = ((2 ^ k - 1 : Nat) : Int) := by omega
  have e2 : 18446744073709551615 - (2 ^ k - 1) = 18446744073709551616 - 2 ^ k := by omega
  rw [e, u64_andNot_nat x _ hx (by omega), e2]
  have h := nat_midmask 64 k x (by omega)
  have e3 : (2 ^ 64 : Nat) = 18446744073709551616 := by decide
  rw [e3, Nat.mod_eq_of_lt hx] at h
  rw [h]

theorem pow_bounds (k : Nat) (hk : k < 64) : 1 ≤ 2 ^ k ∧ 2 ^ k < 18446744073709551616 := by
  have hp : 1 ≤ 2 ^ k := Nat.one_le_two_pow
  have hl : 2 ^ k ≤ 2 ^ 63 := Nat.pow_le_pow_right (by decide) (by omega)
  exact ⟨hp, by omega⟩

/-! ### Need -/
/-- How large a block of n bytes is. -/
def needOf (n : Nat) : Nat := if n < 8 then 48 else (n + 55) / 16 * 16
end Go.Proofs.Ytkpopaadkfgjaaa
