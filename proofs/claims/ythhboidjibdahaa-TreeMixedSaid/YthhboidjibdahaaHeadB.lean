/-
  Package head: the contracts of Size, Root, Resize, Plant and Check.
  Conditions: the Tx is nobody's, or stands in memory; the numbers are of 64 bits.
-/
import Derived.Test.YthhboidjibdahaaHeadA
import Derived.Test.YthhboidjibdahaaTxC
import Derived.Shelf.RegionOpen
import Derived.Deep.QuietTactic
import Derived.BigQuiet
import Derived.Deep.LoopGhost
import Derived.Deep.RegionHeld3
namespace Go.Proofs.Ythhboidjibdahaa
open Go.RowKit
set_option linter.unusedVariables false
set_option linter.unusedSimpArgs false

section
variable {w : World} {T M : Nat} {R : Option Nat} {B D : Nat} {ws : List Nat} {l : List (Nat × Nat)}
theorem hroot_any (h : Thinks w T M R B D ws l) : Calls Try.prog 12 #[.pointer (some ⟨T, 0, none⟩)] w fun e w' => e = .returned (.int .u64 (txSee ws l 32 : Nat)) ∧ w.grownBy w' none := by
  have hc : Calls Try.prog 27 #[.pointer (some ⟨T, 0, none⟩), .int .u64 32] w _ := txload_any h 32 (by decide)
  go_enter Try.func12, Try.ntmps12
  go_wp2_with (go_at_call 27; (with_reducible refine hc.mono ?_); rintro e w1 ⟨rfl, hg1⟩)
  go_ret
  exact ⟨rfl, hg1⟩
theorem hplant_any (h : Thinks w T M R B D ws l) (off : Nat) (ho : off < 18446744073709551616) : Calls Try.prog 17 #[.pointer (some ⟨T, 0, none⟩), .int .u64 off] w fun e w' => e = .returned (.tuple #[]) ∧ Thought w T M R B D ws (txStore ws l 32 off) w' := by
  have hc : Calls Try.prog 21 #[.pointer (some ⟨T, 0, none⟩), .int .u64 32, .int .u64 off] w _ := txstore_any h 32 off (by decide) ho
  go_enter Try.func17, Try.ntmps17
  go_wp2_with (go_at_call 21; (with_reducible refine hc.mono ?_); rintro e w1 ⟨rfl, ht1⟩)
  go_end0
  exact ⟨rfl, ht1⟩
end
theorem hroot_nil (w : World) : Calls Try.prog 12 #[.pointer none] w fun e w' => e = .returned (.int .u64 0) ∧ w = w' := by
  have hc : Calls Try.prog 27 #[.pointer none, .int .u64 32] w _ := txload_nil 32 w
  go_enter Try.func12, Try.ntmps12
  go_wp2_with (go_at_call 27; (with_reducible refine hc.mono ?_); rintro e w1 ⟨rfl, rfl⟩)
  go_ret
  exact ⟨rfl, rfl⟩
theorem hplant_nil (off : Nat) (w : World) : Calls Try.prog 17 #[.pointer none, .int .u64 off] w fun e w' => e = .returned (.tuple #[]) ∧ w = w' := by
  have hc : Calls Try.prog 21 #[.pointer none, .int .u64 32, .int .u64 off] w _ := txstore_nil 32 off w
  go_enter Try.func17, Try.ntmps17
  go_wp2_with (go_at_call 21; (with_reducible refine hc.mono ?_); rintro e w1 ⟨rfl, rfl⟩)
  go_end0
  exact ⟨rfl, rfl⟩
/-- what Check tells -/
def chkP (ws : List Nat) (l : List (Nat × Nat)) : Prop := fitsP (txSee ws l 16) (8 * ws.length) ∧ txSee ws l 0 = 7161130718081542961 ∧ txSee ws l 8 = 1 ∧ txSee ws l 40 = sumN (txSee ws l 16)
instance (ws : List Nat) (l : List (Nat × Nat)) : Decidable (chkP ws l) := by unfold chkP; infer_instance
def chkN (ws : List Nat) (l : List (Nat × Nat)) : Nat := if chkP ws l then 0 else 12
section
variable {w : World} {T M : Nat} {R : Option Nat} {B D : Nat} {ws : List Nat} {l : List (Nat × Nat)}
end
end Go.Proofs.Ythhboidjibdahaa
