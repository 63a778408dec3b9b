/-
  What all statements of layer 1 ask first (awake) is true, and turns nothing that was there.
  No condition.
-/
import Derived.Test.YtebkpcbajheciaaWordE
namespace Go.Proofs.Ytebkpcbajheciaa
open Go.RowKit
set_option linter.unusedVariables false
set_option linter.unusedSimpArgs false
theorem pack_ab (w : World) :
    Calls Try.prog 24 #[.string ⟨#[97, 98]⟩] w fun e w' => e = .returned (.tuple #[.agg #[.int .u64 6447362, .int .u64 0], .bool true]) ∧ Below w.heap.size w w' := by
  have h := pack_any ⟨#[97, 98]⟩ (by decide) (by decide) w
  rw [show loOf ⟨#[97, 98]⟩ ((⟨#[97, 98]⟩ : ByteArray).size + 1) = 6447362 by decide +kernel, show hiOf ⟨#[97, 98]⟩ ((⟨#[97, 98]⟩ : ByteArray).size + 1) = 0 by decide +kernel] at h
  exact h
theorem need_8 (w : World) :
    Calls Try.prog 16 #[.int .u64 8] w fun e w' => e = .returned (.tuple #[.int .u64 48, .bool true]) ∧ w = w' := need_fits 8 (by decide) w
theorem need_9 (w : World) :
    Calls Try.prog 16 #[.int .u64 9] w fun e w' => e = .returned (.tuple #[.int .u64 64, .bool true]) ∧ w = w' := need_fits 9 (by decide) w
theorem up_17 (w : World) :
    Calls Try.prog 14 #[.int .u64 17, .int .u64 16] w fun e w' => e = .returned (.tuple #[.int .u64 32, .bool true]) ∧ w = w' := up_pow_low 17 4 16 (by decide) (by decide) (by decide) w
theorem words_9 (w : World) :
    Calls Try.prog 18 #[.int .u64 9] w fun e w' => e = .returned (.int .u64 2) ∧ w = w' := words_any 9 (by decide) w
theorem eq_ab (w : World) : (Op.equalIn 10000 31 (.agg #[.int .u64 6447362, .int .u64 0]) (.agg #[.int .u64 6447362, .int .u64 0])).run Try.prog w = .ok true w := by kernel_rfl
set_option maxHeartbeats 400000 in
theorem awake_any (w : World) :
    Calls Try.prog 9 #[] w fun e w' => e = .returned (.bool true) ∧ Below w.heap.size w w' := by
  have heq := eq_ab
  go_enter Try.func9, Try.ntmps9
  go_wp2_with (first | (go_at_call 16; with_reducible refine (need_8 _).mono ?_; rintro e w' ⟨rfl, rfl⟩) | (go_at_call 16; with_reducible refine (need_9 _).mono ?_; rintro e w' ⟨rfl, rfl⟩) | (go_at_call 14; with_reducible refine (up_17 _).mono ?_; rintro e w' ⟨rfl, rfl⟩) | (go_at_call 24; with_reducible refine (pack_ab _).mono ?_; rintro e w1 ⟨rfl, hb1⟩) | (go_at_call 18; with_reducible refine (words_9 _).mono ?_; rintro e w' ⟨rfl, rfl⟩))
  go_ret
  exact ⟨rfl, hb1.alloc hb1.size _⟩
end Go.Proofs.Ytebkpcbajheciaa
