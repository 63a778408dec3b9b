/-
  Package head: the contracts of Size, Root, Resize, Plant and Check.
  Conditions: the Tx is nobody's, or stands in memory; the numbers are of 64 bits.
-/
import Derived.Test.YtgebkdngglljeaaHeadA
import Derived.Test.YtgebkdngglljeaaTxC
import Derived.Shelf.RegionOpen
import Derived.Deep.QuietTactic
import Derived.BigQuiet
import Derived.Deep.LoopGhost
import Derived.Deep.RegionHeld3
namespace Go.Proofs.Ytgebkdngglljeaa
open Go.RowKit
set_option linter.unusedVariables false
set_option linter.unusedSimpArgs false

section
variable {w : World} {T M : Nat} {R : Option Nat} {B D : Nat} {ws : List Nat} {l : List (Nat × Nat)}
theorem hsize_any (h : Thinks w T M R B D ws l) : Calls Try.prog 47 #[.pointer (some ⟨T, 0, none⟩)] w fun e w' => e = .returned (.int .u64 (txSee ws l 16 : Nat)) ∧ w.grownBy w' none := by
  have hc : Calls Try.prog 21 #[.pointer (some ⟨T, 0, none⟩), .int .u64 16] w _ := txload_any h 16 (by decide)
  go_enter Try.func47, Try.ntmps47
  go_wp2_with (go_at_call 21; (with_reducible refine hc.mono ?_); rintro e w1 ⟨rfl, hg1⟩)
  go_ret
  exact ⟨rfl, hg1⟩
end
theorem hsize_nil (w : World) : Calls Try.prog 47 #[.pointer none] w fun e w' => e = .returned (.int .u64 0) ∧ w = w' := by
  have hc : Calls Try.prog 21 #[.pointer none, .int .u64 16] w _ := txload_nil 16 w
  go_enter Try.func47, Try.ntmps47
  go_wp2_with (go_at_call 21; (with_reducible refine hc.mono ?_); rintro e w1 ⟨rfl, rfl⟩)
  go_ret
  exact ⟨rfl, rfl⟩
/-- what Check tells -/
def chkP (ws : List Nat) (l : List (Nat × Nat)) : Prop := fitsP (txSee ws l 16) (8 * ws.length) ∧ txSee ws l 0 = 7161130718081542961 ∧ txSee ws l 8 = 1 ∧ txSee ws l 40 = sumN (txSee ws l 16)
instance (ws : List Nat) (l : List (Nat × Nat)) : Decidable (chkP ws l) := by unfold chkP; infer_instance
def chkN (ws : List Nat) (l : List (Nat × Nat)) : Nat := if chkP ws l then 0 else 12
section
variable {w : World} {T M : Nat} {R : Option Nat} {B D : Nat} {ws : List Nat} {l : List (Nat × Nat)}
end
end Go.Proofs.Ytgebkdngglljeaa
