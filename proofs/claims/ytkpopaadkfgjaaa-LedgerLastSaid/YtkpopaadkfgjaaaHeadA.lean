/-
  Package head: the contracts of Sum, fits, must and whole, and of the plain answers Sum and Fits.
  Conditions: the numbers are of 64 bits.
-/
import Derived.Test.YtkpopaadkfgjaaaSegR
import Derived.Test.YtkpopaadkfgjaaaWordA
import Derived.Test.YtkpopaadkfgjaaaWordR
import Derived.Laws.Bits64
namespace Go.Proofs.Ytkpopaadkfgjaaa
open Go.RowKit
set_option linter.unusedVariables false
set_option linter.unusedSimpArgs false

/-- the checksum of a size -/
def sumN (n : Nat) : Nat := ((7161130718081542961 ^^^ n) * 11400714819323198485) % 18446744073709551616
theorem sumN_lt (n : Nat) : sumN n < 18446744073709551616 := Nat.mod_lt _ (by decide)
theorem sum_int (n : Nat) (hn : n < 18446744073709551616) : IntKind.u64.wrap (bits BinOp.xor IntKind.u64 7161130718081542961 (n : Int) * 11400714819323198485) = (sumN n : Nat) := by
  have h := bits_xor_u64_nat 7161130718081542961 n (by decide) hn
  rw [show ((7161130718081542961 : Nat) : Int) = 7161130718081542961 from rfl] at h
  rw [h, IntKind.wrap_u64]
  unfold sumN
  generalize 7161130718081542961 ^^^ n = x
  rw [Int.natCast_emod, Int.natCast_mul]
  rfl
theorem hsum_any (n : Nat) (hn : n < 18446744073709551616) (w : World) :
    Calls Try.prog 65 #[.int .u64 n] w fun e w' => e = .returned (.int .u64 (sumN n : Nat)) ∧ w = w' := by
  have hs := sum_int n hn
  go_enter Try.func65, Try.ntmps65
  go_wp2_with (first | (go_at_call 80; refine (mix_any _ _).mono ?_; rintro e w1 ⟨rfl, rfl⟩; rw [hs]))
  go_ret
  exact ⟨rfl, rfl⟩
theorem rsum_any (n : Nat) (hn : n < 18446744073709551616) (w : World) :
    Calls Try.prog 46 #[.int .u64 n] w fun e w' => e = .returned (.int .u64 (sumN n : Nat)) ∧ w = w' := by
  have hs := sum_int n hn
  go_enter Try.func46, Try.ntmps46
  go_wp2_with (first | (go_at_call 67; refine (rmix_any _ _).mono ?_; rintro e w1 ⟨rfl, rfl⟩; rw [hs]))
  go_ret
  exact ⟨rfl, rfl⟩
/-- may a heap end at n, in so many bytes? -/
def fitsP (n a : Nat) : Prop := n % 16 = 0 ∧ 3824 ≤ n ∧ n ≤ a
instance (n a : Nat) : Decidable (fitsP n a) := by unfold fitsP; infer_instance
theorem fits_any (n a : Nat) (w : World) :
    Calls Try.prog 38 #[.int .u64 n, .int .u64 a] w fun e w' => e = .returned (.bool (decide (fitsP n a))) ∧ w = w' := by
  by_cases h0 : (n : Int) % 16 = 0
  · by_cases h1 : 3824 ≤ (n : Int)
    · have hd : decide (fitsP n a) = decide (n ≤ a) := by rw [decide_eq_decide]; unfold fitsP; omega
      rw [hd]
      go_enter Try.func38, Try.ntmps38
      go_wp2
      go_ret
      exact ⟨rfl, rfl⟩
    · rw [decide_eq_false (show ¬ fitsP n a by unfold fitsP; omega)]
      go_enter Try.func38, Try.ntmps38
      go_wp2
      go_ret
      exact ⟨rfl, rfl⟩
  · rw [decide_eq_false (show ¬ fitsP n a by unfold fitsP; omega)]
    go_enter Try.func38, Try.ntmps38
    go_wp2
    go_ret
    exact ⟨rfl, rfl⟩
theorem rfits_any (n a : Nat) (w : World) :
    Calls Try.prog 45 #[.int .u64 n, .int .u64 a] w fun e w' => e = .returned (.bool (decide (fitsP n a))) ∧ w = w' := by
  by_cases h0 : (n : Int) % 16 = 0
  · by_cases h1 : 3824 ≤ (n : Int)
    · have hd : decide (fitsP n a) = decide (n ≤ a) := by rw [decide_eq_decide]; unfold fitsP; omega
      rw [hd]
      go_enter Try.func45, Try.ntmps45
      go_wp2
      go_ret
      exact ⟨rfl, rfl⟩
    · rw [decide_eq_false (show ¬ fitsP n a by unfold fitsP; omega)]
      go_enter Try.func45, Try.ntmps45
      go_wp2
      go_ret
      exact ⟨rfl, rfl⟩
  · rw [decide_eq_false (show ¬ fitsP n a by unfold fitsP; omega)]
    go_enter Try.func45, Try.ntmps45
    go_wp2
    go_ret
    exact ⟨rfl, rfl⟩
theorem must_any (n : Nat) (hn : n < 18446744073709551616) (w : World) :
    Calls Try.prog 42 #[.int .u64 n] w fun e w' => e = .returned (.agg #[.int .u64 0, .int .u64 7161130718081542961, .int .u64 8, .int .u64 1, .int .u64 16, .int .u64 n, .int .u64 40, .int .u64 (sumN n : Nat)]) ∧ w.grownBy w' none := by
  have hs := fun w => hsum_any n hn w
  go_enter Try.func42, Try.ntmps42
  go_wp2_with (first | (go_at_call 65; refine (hs _).mono ?_; rintro e w1 ⟨rfl, rfl⟩))
  refine bodyPost_ret (results_cell_row (by kernel_rfl : Try.f42.results = #[.cell 2 97]) _ _ w.heap.size 97 _ (0, 0) _ rfl (heap_alloc_new' _ _) Try.underlying97 rfl (by kernel_rfl)) rfl ?_
  exact ⟨rfl, World.grownBy_alloc _ _ _⟩
theorem whole_any (n : Nat) (hn : n < 18446744073709551616) (h : 3824 ≤ n) (w : World) :
    Calls Try.prog 43 #[.int .u64 n] w fun e w' => e = .returned (.agg #[.int .u64 32, .int .u64 3776, .int .u64 3776, .int .u64 (n - 3776 : Nat), .int .u64 (n - 8 : Nat), .int .u64 (n - 3776 : Nat)]) ∧ w.grownBy w' none := by
  have e1 : IntKind.u64.wrap ((n : Int) - 3776) = (n - 3776 : Nat) := by rw [IntKind.wrap_u64]; omega
  have e2 : IntKind.u64.wrap ((n : Int) - 8) = (n - 8 : Nat) := by rw [IntKind.wrap_u64]; omega
  go_enter Try.func43, Try.ntmps43
  go_wp2
  refine bodyPost_ret (results_cell_row (by kernel_rfl : Try.f43.results = #[.cell 2 99]) _ _ w.heap.size 99 _ (0, 0) _ rfl (heap_alloc_new' _ _) Try.underlying99 rfl (by kernel_rfl)) rfl ?_
  exact ⟨rfl, World.grownBy_alloc _ _ _⟩
/-- a pair in a block of its own, whatever is made behind it -/
theorem pair_new {wr w' : World} {a b : Value} {t : TypeId} (hg : (wr.alloc (.cells #[a, b] t)).grownBy w' none) : w'.cell? ⟨wr.heap.size, 0, none⟩ = some a ∧ w'.cell? ⟨wr.heap.size, 1, none⟩ = some b := by
  have h := (hg.block wr.heap.size (by rw [World.size_alloc]; omega) (by simp)).trans (heap_alloc_new' _ _)
  exact ⟨by simp [World.cell?, h], by simp [World.cell?, h]⟩
end Go.Proofs.Ytkpopaadkfgjaaa
