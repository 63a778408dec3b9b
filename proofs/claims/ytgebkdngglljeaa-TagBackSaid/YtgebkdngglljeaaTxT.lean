/-
  The contracts of the plain answers Apply and Same of layer 3.
  Conditions: the words, and the pairs, are rows of the call's own, or nil.
-/
import Derived.Test.YtgebkdngglljeaaTxS
import Derived.Test.YtgebkdngglljeaaTxF
import Derived.StillTailTactics
import Derived.Deep.RegionHeld3
import Derived.Deep.QuietTactic
import Derived.BigQuiet
namespace Go.Proofs.Ytgebkdngglljeaa
open Go.RowKit
set_option linter.unusedVariables false
set_option linter.unusedSimpArgs false

theorem applyI_step (ws : List Nat) (l : List (Nat × Nat)) (k : Nat) : applyI ws l (List.range (k + 1)) = put (applyI ws l (List.range k)) (txX l k) (txV l k) := by
  rw [List.range_succ, applyI_snoc]
end Go.Proofs.Ytgebkdngglljeaa
