/-
  Package head: the contracts of Size, Root, Resize, Plant and Check.
  Conditions: the Tx is nobody's, or stands in memory; the numbers are of 64 bits.
-/
import Derived.Test.YtkpopaadkfgjaaaHeadA
import Derived.Test.YtkpopaadkfgjaaaTxC
import Derived.Shelf.RegionOpen
import Derived.Deep.QuietTactic
import Derived.BigQuiet
import Derived.Deep.LoopGhost
import Derived.Deep.RegionHeld3
namespace Go.Proofs.Ytkpopaadkfgjaaa
open Go.RowKit
set_option linter.unusedVariables false
set_option linter.unusedSimpArgs false

section
variable {w : World} {T M : Nat} {R : Option Nat} {B D : Nat} {ws : List Nat} {l : List (Nat × Nat)}
end
/-- what Check tells -/
def chkP (ws : List Nat) (l : List (Nat × Nat)) : Prop := fitsP (txSee ws l 16) (8 * ws.length) ∧ txSee ws l 0 = 7161130718081542961 ∧ txSee ws l 8 = 1 ∧ txSee ws l 40 = sumN (txSee ws l 16)
instance (ws : List Nat) (l : List (Nat × Nat)) : Decidable (chkP ws l) := by unfold chkP; infer_instance
def chkN (ws : List Nat) (l : List (Nat × Nat)) : Nat := if chkP ws l then 0 else 12
section
variable {w : World} {T M : Nat} {R : Option Nat} {B D : Nat} {ws : List Nat} {l : List (Nat × Nat)}
end
end Go.Proofs.Ytkpopaadkfgjaaa
