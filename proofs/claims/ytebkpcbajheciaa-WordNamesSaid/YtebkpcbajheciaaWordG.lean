/-
  The contract of Name's closure: a byte of one of two words.
  Conditions: the words are 0 to 2^64 - 1, the byte's place 0 to 15.
-/
import Derived.Test.YtebkpcbajheciaaWordF
namespace Go.Proofs.Ytebkpcbajheciaa
open Go.RowKit
set_option linter.unusedVariables false
set_option linter.unusedSimpArgs false
theorem pow256 (i : Nat) : (2 : Nat) ^ (8 * i) = 256 ^ i := by rw [Nat.pow_mul]
theorem pow256_int (i : Nat) : (2 : Int) ^ (8 * i) = ((256 ^ i : Nat) : Int) := by rw [← pow256]; simp
theorem byte_low (i : Int) (k x : Nat) (ei : i = k) (hk : k < 8) (hx : x < 18446744073709551616) (B : Nat) (w : World)
    (h0 : w.cell? ⟨B, 0, none⟩ = some (.int .u64 x)) :
    Calls Try.prog 33 #[.int .i64 i, .pointer (some ⟨B, 0, none⟩)] w fun e w' => e = .returned (.int .u8 ((x / 256 ^ k % 256 : Nat) : Int)) ∧ w = w' := by
  subst ei
  have e1 : (k : Int) / 8 = 0 := by omega
  have e2 : k % 8 = k := by omega
  go_enter Try.func33, Try.ntmps33
  go_wp2
  go_ret
  exact ⟨ret_int (by rw [pow256_int, ← Int.natCast_ediv]; omega), rfl⟩
theorem byte_high (i : Int) (k x : Nat) (ei : i = (8 + k : Nat)) (hk : k < 8) (hx : x < 18446744073709551616) (B : Nat) (w : World)
    (h0 : w.cell? ⟨B, 1, none⟩ = some (.int .u64 x)) :
    Calls Try.prog 33 #[.int .i64 i, .pointer (some ⟨B, 0, none⟩)] w fun e w' => e = .returned (.int .u8 ((x / 256 ^ k % 256 : Nat) : Int)) ∧ w = w' := by
  obtain ⟨j, hj⟩ : ∃ j, j = 8 + k := ⟨_, rfl⟩
  rw [← hj] at ei
  subst ei
  have e1 : (j : Int) / 8 = 1 := by omega
  have e2 : j % 8 = k := by omega
  have hj16 : j < 16 := by omega
  clear hj
  go_enter Try.func33, Try.ntmps33
  go_wp2
  go_ret
  exact ⟨ret_int (by rw [pow256_int, ← Int.natCast_ediv]; omega), rfl⟩

/-! ### Two pairs of words, held against each other -/
theorem size_w (w : World) : (sizeOf 22).run Try.prog w = .ok 1 w := by kernel_rfl
theorem part0 (a b : Value) (w : World) : (part 22 #[a, b] (0 * 1)).run Try.prog w = .ok a w := by kernel_rfl
theorem part1 (a b : Value) (w : World) : (part 22 #[a, b] (1 * 1)).run Try.prog w = .ok b w := by kernel_rfl
theorem eq_arr (a b c d : Int) (w : World) : (Op.equalIn 10000 31 (.agg #[.int .u64 a, .int .u64 b]) (.agg #[.int .u64 c, .int .u64 d])).run Try.prog w = .ok (a == c && b == d) w := by
  show (Op.equalIn (9998 + 1 + 1) 31 (.agg #[.int .u64 a, .int .u64 b]) (.agg #[.int .u64 c, .int .u64 d])).run Try.prog w = .ok (a == c && b == d) w
  have hi : ∀ x y : Int, (Op.equalIn (9998 + 1) 22 (.int .u64 x) (.int .u64 y)).run Try.prog w = .ok (x == y) w := fun x y => run_equalIn_int w 9998 22 .u64 .u64 x y Try.underlying22
  rw [Op.equalIn]
  simp only [Sem.run_bind, run_underlying Try.underlying31, Result.andThen_ok, size_w, Std.Legacy.Range.forIn_eq_forIn_range', Std.Legacy.Range.size]
  rw [show List.range' 0 ((2 - 0 + 1 - 1) / 1) = [0, 1] by decide]
  simp only [List.forIn_cons, List.forIn_nil, Sem.run_bind, part0, part1, hi, Result.andThen_ok, Sem.run_ite, Sem.run_pure]
  cases h1 : (a == c)
  · rfl
  · simp only [Bool.not_true, Bool.false_eq_true, if_false, Result.andThen_ok, Sem.run_bind, part1, hi, Sem.run_ite, Sem.run_pure]
    cases h2 : (b == d) <;> rfl
end Go.Proofs.Ytebkpcbajheciaa
