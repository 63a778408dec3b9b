/-
  The contracts of the plain answer Need, and of both Hash: the bytes one by one, exclusive or, and a product.
  Conditions: numbers are of their own kind; a string is one that may be.
-/
import Derived.Test.YtkpopaadkfgjaaaWordR
namespace Go.Proofs.Ytkpopaadkfgjaaa
open Go.RowKit
set_option linter.unusedVariables false
set_option linter.unusedSimpArgs false

theorem rneed_small (n : Nat) (h : n < 8) (w : World) :
    Calls Try.prog 56 #[.int .u64 n] w fun e w' => e = .returned (.tuple #[.int .u64 48, .bool true]) ∧ w = w' := by
  go_enter Try.func56, Try.ntmps56
  go_wp2_with (first | (go_at_call 75; refine (radd_low 8 40 (by decide) _).mono ?_; rintro e w' ⟨rfl, rfl⟩) | (go_at_call 76; refine (rup_pow_low 48 4 16 (by decide) (by decide) (by decide) _).mono ?_; rintro e w' ⟨rfl, rfl⟩))
  go_ret2
  exact ⟨rfl, rfl⟩
theorem rneed_low (n : Nat) (h8 : 8 ≤ n) (h : n + 55 < 18446744073709551616) (w : World) :
    Calls Try.prog 56 #[.int .u64 n] w fun e w' => e = .returned (.tuple #[.int .u64 (((n + 55) / 16 * 16 : Nat) : Int), .bool true]) ∧ w = w' := by
  go_enter Try.func56, Try.ntmps56
  go_wp2_with (first | (go_at_call 75; refine (radd_low n 40 (by omega) _).mono ?_; rintro e w' ⟨rfl, rfl⟩) | (go_at_call 76; refine (rup_pow_low (n + 40) 4 16 (by decide) (by decide) (by omega) _).mono ?_; rintro e w' ⟨rfl, rfl⟩))
  go_ret2
  exact ⟨ret_pair (by omega), rfl⟩
theorem rneed_high (n : Nat) (hn : n < 18446744073709551616) (h : 18446744073709551616 ≤ n + 55) (w : World) :
    Calls Try.prog 56 #[.int .u64 n] w fun e w' => e = .returned (.tuple #[.int .u64 0, .bool false]) ∧ w = w' := by
  rcases Nat.lt_or_ge (n + 40) 18446744073709551616 with h4 | h4
  · go_enter Try.func56, Try.ntmps56
    go_wp2_with (first | (go_at_call 75; refine (radd_low n 40 (by omega) _).mono ?_; rintro e w' ⟨rfl, rfl⟩) | (go_at_call 76; refine (rup_pow_high (n + 40) 4 16 (by omega) (by decide) (by decide) (by omega) _).mono ?_; rintro e w' ⟨rfl, rfl⟩))
    go_ret2
    exact ⟨rfl, rfl⟩
  · go_enter Try.func56, Try.ntmps56
    go_wp2_with (first | (go_at_call 75; refine (radd_high n 40 (by omega) (by decide) (by omega) _).mono ?_; rintro e w' ⟨rfl, rfl⟩))
    go_ret2
    exact ⟨rfl, rfl⟩
theorem rneed_fits (n : Nat) (h : n + 55 < 18446744073709551616) (w : World) :
    Calls Try.prog 56 #[.int .u64 n] w fun e w' => e = .returned (.tuple #[.int .u64 (needOf n : Nat), .bool true]) ∧ w = w' := by
  unfold needOf
  by_cases h8 : n < 8
  · rw [if_pos h8]; exact rneed_small n h8 w
  · rw [if_neg h8]; exact rneed_low n (by omega) h w

/-! ### Hash -/
def hstep (h : Int) (b : UInt8) : Int := IntKind.u64.wrap (bits .xor .u64 h (IntKind.u64.wrap b.toNat) * 1099511628211)
def hashTo (s : ByteArray) (k : Nat) : Int := (s.data.toList.take k).foldl hstep 14695981039346656037
theorem hash_zero (s : ByteArray) : hashTo s 0 = 14695981039346656037 := by unfold hashTo; rw [List.take_zero, List.foldl_nil]
theorem hash_snoc (s : ByteArray) (k : Nat) (h : k < s.size) : hashTo s (k + 1) = IntKind.u64.wrap (bits .xor .u64 (hashTo s k) (IntKind.u64.wrap s[k].toNat) * 1099511628211) := by
  unfold hashTo
  rw [List.take_succ_eq_append_getElem (by simpa using h), List.foldl_append]
  rfl
end Go.Proofs.Ytkpopaadkfgjaaa
