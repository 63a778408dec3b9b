/-
  The contracts of the plain answers of layer 1 (Add, Up at a power of two, Need, Words, Mix), and of both Hash.
  Conditions: numbers are of their own kind (0 to 2^64 - 1); a string has at most 100 bytes.
-/
import Derived.Test.YtndoedcaoklfgaaWordB
import Derived.LoopTactic
import Derived.Deep.LoopGhost
namespace Go.Proofs.Ytndoedcaoklfgaa
open Go.RowKit
set_option linter.unusedVariables false
set_option linter.unusedSimpArgs false

theorem ret_boolf {b : Bool} (h : b = false) : Ending.returned (.bool b) = .returned (.bool false) := by rw [h]

theorem rmix_any (x : Int) (w : World) :
    Calls Try.prog 65 #[.int .u64 x] w fun e w' => e = .returned (.int .u64 (IntKind.u64.wrap (x * 11400714819323198485))) ∧ w = w' := by
  go_enter Try.func65, Try.ntmps65
  go_wp2
  go_ret
  exact ⟨rfl, rfl⟩
/-! ### power -/
/-! ### Up -/
theorem up_div (n a : Nat) (hp : 1 ≤ a) (h : ¬ n % a = 0) : (n + (a - 1)) / a * a = n - n % a + a := by
  have hd := Nat.div_add_mod n a
  have hm := Nat.mod_lt n hp
  have e : n + (a - 1) = (n % a - 1) + (n / a + 1) * a := by rw [Nat.succ_mul, Nat.mul_comm (n / a) a]; omega
  rw [e, Nat.add_mul_div_right _ _ hp, Nat.div_eq_of_lt (by omega), Nat.zero_add, Nat.succ_mul, Nat.mul_comm (n / a) a]
  omega
theorem up_div0 (n a : Nat) (hp : 1 ≤ a) (h : n % a = 0) : (n + (a - 1)) / a * a = n := by
  have hd := Nat.div_add_mod n a
  have e : n + (a - 1) = (a - 1) + (n / a) * a := by rw [Nat.mul_comm (n / a) a]; omega
  rw [e, Nat.add_mul_div_right _ _ hp, Nat.div_eq_of_lt (by omega), Nat.zero_add, Nat.mul_comm (n / a) a]
  omega
/-- Where the multiple would be too large. -/
theorem over_pow (n k a : Nat) (hk : k < 64) (ea : a = 2 ^ k) (hn : n < 18446744073709551616) (h : 18446744073709551616 ≤ n + (a - 1)) : ¬ n % a = 0 ∧ 18446744073709551616 ≤ n - n % a + a := by
  have hb := pow_bounds k hk
  rw [← ea] at hb
  have hp : 18446744073709551616 = 2 ^ k * 2 ^ (64 - k) := by rw [← Nat.pow_add, show k + (64 - k) = 64 by omega]
  rw [← ea] at hp
  obtain ⟨c, ec⟩ : ∃ c, c = 2 ^ (64 - k) := ⟨_, rfl⟩
  rw [← ec] at hp
  have hd := Nat.div_add_mod n a
  have hm := Nat.mod_lt n hb.1
  obtain ⟨q, eq⟩ : ∃ q, q = n / a := ⟨_, rfl⟩
  rw [← eq] at hd
  have hqc : q < c := by
    rcases Nat.lt_or_ge q c with h' | h'
    · exact h'
    · have := Nat.mul_le_mul_left a h'
      omega
  have h1 := Nat.mul_le_mul_left a (Nat.succ_le_of_lt hqc)
  rw [Nat.mul_succ] at h1
  rcases Nat.lt_or_ge (q + 1) c with h2 | h2
  · have h3 := Nat.mul_le_mul_left a (Nat.succ_le_of_lt h2)
    rw [Nat.mul_succ, Nat.mul_succ] at h3
    omega
  · have h3 := Nat.mul_le_mul_left a h2
    rw [Nat.mul_succ] at h3
    omega
end Go.Proofs.Ytndoedcaoklfgaa
