/-
  The library's sort of nothing: nothing is stored.
  No condition.
-/
import Derived.Test.YtmcnpenihoaajaaGreatLPhb
namespace Go.Proofs.YtmcnpenihoaajaaGreat
open Go.RowKit
set_option linter.unusedVariables false
set_option linter.unusedSimpArgs false
set_option maxRecDepth 100000
section
variable (a : Option Addr) (c : Nat) (w : World)
theorem len64_none : Calls Tryz.prog 156 #[.int .u64 0] w fun e w' => e = .returned (.int .i64 0) ∧ w = w' := by
  go_enter Tryz.func156, Tryz.ntmps156
  go_wp2
  go_ret
  exact ⟨by kernel_rfl, rfl⟩
theorem len_none : Calls Tryz.prog 112 #[.int .u64 0] w fun e w' => e = .returned (.int .i64 0) ∧ w = w' := by
  have h := fun V => len64_none V
  go_enter Tryz.func112, Tryz.ntmps112
  go_wp2_with (go_at_call 156; go_must ((with_reducible refine (h _).mono ?_); rintro e w1 ⟨rfl, rfl⟩))
  go_ret
  exact ⟨rfl, rfl⟩
theorem ins_none : Calls Tryz.prog 206 #[.slice a 0 c, .int .i64 0, .int .i64 0] w fun e w' => e = .returned (.tuple #[]) ∧ w = w' := by
  go_enter Tryz.func206, Tryz.ntmps206
  go_wp2
  go_loopw [6] (fun i wr => i = .int .i64 1 ∧ w = wr) (fun _ _ => 0)
  case atStart => exact ⟨rfl, rfl⟩
  case round =>
    obtain ⟨rfl, rfl⟩ := hrel
    go_wp2
    go_end0
    exact ⟨rfl, rfl⟩
theorem pdq_none : Calls Tryz.prog 169 #[.slice a 0 c, .int .i64 0, .int .i64 0, .int .i64 0] w fun e w' => e = .returned (.tuple #[]) ∧ w = w' := by
  have h := fun V => ins_none a c V
  go_enter Tryz.func169, Tryz.ntmps169
  go_wp2
  go_loopw [1, 2, 3, 8] (fun x y z i wr => x = .int .i64 0 ∧ y = .int .i64 0 ∧ z = .int .i64 0 ∧ i = .bool true ∧ w = wr) (fun _ _ _ _ _ => 0)
  case atStart => exact ⟨rfl, rfl, rfl, rfl, rfl⟩
  case round =>
    obtain ⟨rfl, rfl, rfl, rfl, rfl⟩ := hrel
    go_wp2_with (go_at_call 206; go_must ((with_reducible refine (h _).mono ?_); rintro e w1 ⟨rfl, rfl⟩))
    (try simp only [Exit.inBlock, Exit.then]); refine bodyPost_ret (results_none rfl _ _ _) rfl ?_
    exact ⟨rfl, rfl⟩
theorem sort_none : Calls Tryz.prog 128 #[.slice a 0 c] w fun e w' => e = .returned (.tuple #[]) ∧ w = w' := by
  have h := fun V => pdq_none a c V
  have h1 := fun V => len_none V
  go_enter Tryz.func128, Tryz.ntmps128
  go_wp2_with (first | (go_at_call 112; go_must ((with_reducible refine (h1 _).mono ?_); rintro e w1 ⟨rfl, rfl⟩)) | (go_at_call 169; go_must ((with_reducible refine (h _).mono ?_); rintro e w1 ⟨rfl, rfl⟩)))
  go_end0
  exact ⟨rfl, rfl⟩
variable (g : Value)
theorem insC_none : Calls Tryz.prog 147 #[.slice a 0 c, .int .i64 0, .int .i64 0, g] w fun e w' => e = .returned (.tuple #[]) ∧ w = w' := by
  go_enter Tryz.func147, Tryz.ntmps147
  go_wp2
  go_loopw [8] (fun i wr => i = .int .i64 1 ∧ w = wr) (fun _ _ => 0)
  case atStart => exact ⟨rfl, rfl⟩
  case round =>
    obtain ⟨rfl, rfl⟩ := hrel
    go_wp2
    go_end0
    exact ⟨rfl, rfl⟩
theorem pdqC_none : Calls Tryz.prog 111 #[.slice a 0 c, .int .i64 0, .int .i64 0, .int .i64 0, g] w fun e w' => e = .returned (.tuple #[]) ∧ w = w' := by
  have h := fun V => insC_none a c V g
  go_enter Tryz.func111, Tryz.ntmps111
  go_wp2
  go_loopw [1, 2, 3, 10] (fun x y z i wr => x = .int .i64 0 ∧ y = .int .i64 0 ∧ z = .int .i64 0 ∧ i = .bool true ∧ w = wr) (fun _ _ _ _ _ => 0)
  case atStart => exact ⟨rfl, rfl, rfl, rfl, rfl⟩
  case round =>
    obtain ⟨rfl, rfl, rfl, rfl, rfl⟩ := hrel
    go_wp2_with (go_at_call 147; go_must ((with_reducible refine (h _).mono ?_); rintro e w1 ⟨rfl, rfl⟩))
    (try simp only [Exit.inBlock, Exit.then]); refine bodyPost_ret (results_none rfl _ _ _) rfl ?_
    exact ⟨rfl, rfl⟩
theorem sortC_none : Calls Tryz.prog 69 #[.slice a 0 c, g] w fun e w' => e = .returned (.tuple #[]) ∧ w = w' := by
  have h := fun V => pdqC_none a c V g
  have h1 := fun V => len_none V
  go_enter Tryz.func69, Tryz.ntmps69
  go_wp2_with (first | (go_at_call 112; go_must ((with_reducible refine (h1 _).mono ?_); rintro e w1 ⟨rfl, rfl⟩)) | (go_at_call 111; go_must ((with_reducible refine (h _).mono ?_); rintro e w1 ⟨rfl, rfl⟩)))
  go_end0
  exact ⟨rfl, rfl⟩
end
end Go.Proofs.YtmcnpenihoaajaaGreat
