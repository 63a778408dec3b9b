/-
  The contracts of package word's functions that compute with numbers alone: Add, Up at a power of two, Need, Words, Mix.
  Conditions: the arguments are numbers of their own kind (0 to 2^64 - 1).
-/
import Derived.Test.YtebkpcbajheciaaProg
import Derived.WalkKit
import Derived.WalkSpells
import Derived.WalkLawsBesides
import Derived.Handy
import Derived.Laws.Externs
import Derived.KernelRfl
namespace Go.Proofs.Ytebkpcbajheciaa
open Go.RowKit
set_option linter.unusedVariables false
set_option linter.unusedSimpArgs false

theorem ret_int {k : IntKind} {a b : Int} (h : a = b) : Ending.returned (.int k a) = .returned (.int k b) := by rw [h]

/-- bits.Add64 with no carry in. -/
theorem add64_at (x y : Nat) (w : World) :
    (callFunc 28 #[.int .u64 x, .int .u64 y, .int .u64 0]).run Try.prog w =
      .ok (.value (.tuple #[.int .u64 (((x + y) % 18446744073709551616 : Nat) : Int), .int .u64 (((x + y) / 18446744073709551616 : Nat) : Int)])) w := by
  rw [run_callFunc_extern Try.func28 (by kernel_rfl) (by kernel_rfl) (by kernel_rfl) (e := add64Entry) (by kernel_rfl), run_add64 x y 0 (by omega) (by omega) (by omega) (by omega)]
  simp only [Result.andThen]
  congr 5 <;> omega

theorem add64_low (x y : Nat) (h : x + y < 18446744073709551616) (w : World) :
    (callFunc 28 #[.int .u64 x, .int .u64 y, .int .u64 0]).run Try.prog w =
      .ok (.value (.tuple #[.int .u64 ((x + y : Nat) : Int), .int .u64 0])) w := by
  rw [add64_at, Nat.mod_eq_of_lt h, Nat.div_eq_of_lt h]; rfl

theorem add64_high (x y : Nat) (hx : x < 18446744073709551616) (hy : y < 18446744073709551616) (h : 18446744073709551616 ≤ x + y) (w : World) :
    (callFunc 28 #[.int .u64 x, .int .u64 y, .int .u64 0]).run Try.prog w =
      .ok (.value (.tuple #[.int .u64 (((x + y) % 18446744073709551616 : Nat) : Int), .int .u64 1])) w := by
  rw [add64_at]
  have : (x + y) / 18446744073709551616 = 1 := by omega
  rw [this]; rfl

theorem add_low (x y : Nat) (h : x + y < 18446744073709551616) (w : World) :
    Calls Try.prog 10 #[.int .u64 x, .int .u64 y] w fun e w' => e = .returned (.tuple #[.int .u64 ((x + y : Nat) : Int), .bool true]) ∧ w = w' := by
  have c64 := add64_low x y h
  go_enter Try.func10, Try.ntmps10
  go_wp2_with (simp only [c64])
  go_ret2
  exact ⟨rfl, rfl⟩

theorem add_high (x y : Nat) (hx : x < 18446744073709551616) (hy : y < 18446744073709551616) (h : 18446744073709551616 ≤ x + y) (w : World) :
    Calls Try.prog 10 #[.int .u64 x, .int .u64 y] w fun e w' => e = .returned (.tuple #[.int .u64 0, .bool false]) ∧ w = w' := by
  have c64 := add64_high x y hx hy h
  go_enter Try.func10, Try.ntmps10
  go_wp2_with (simp only [c64])
  go_ret2
  exact ⟨rfl, rfl⟩

/-- Mix is a product modulo 2^64. -/
theorem mix_any (x : Int) (w : World) :
    Calls Try.prog 20 #[.int .u64 x] w fun e w' => e = .returned (.int .u64 (IntKind.u64.wrap (x * 11400714819323198485))) ∧ w = w' := by
  go_enter Try.func20, Try.ntmps20
  go_wp2
  go_ret
  exact ⟨rfl, rfl⟩

/-- Words rounds up. -/
theorem words_any (n : Nat) (hn : n < 18446744073709551616) (w : World) :
    Calls Try.prog 18 #[.int .u64 n] w fun e w' => e = .returned (.int .u64 (((n + 7) / 8 : Nat) : Int)) ∧ w = w' := by
  by_cases h : (n : Int) % 8 = 0
  · go_enter Try.func18, Try.ntmps18
    go_wp2
    go_ret
    exact ⟨ret_int (by omega), rfl⟩
  · go_enter Try.func18, Try.ntmps18
    go_wp2
    go_ret
    exact ⟨ret_int (by omega), rfl⟩

end Go.Proofs.Ytebkpcbajheciaa
