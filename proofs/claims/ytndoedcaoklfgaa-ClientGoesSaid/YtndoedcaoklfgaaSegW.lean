/-
  The contract of Nums at two lists that are the same: true.
  Conditions: both are rows of the call's own, or nil.
-/
import Derived.Test.YtndoedcaoklfgaaSegR
import Derived.Deep.QuietTactic
import Derived.BigQuiet
import Derived.Deep.LoopGhost
namespace Go.Proofs.Ytndoedcaoklfgaa
open Go.RowKit
set_option linter.unusedVariables false
set_option linter.unusedSimpArgs false

/-- A list that Diff told is a row of the call's own. -/
theorem DiffRel.words {w wr : World} {a b : List Nat} {k : Nat} {v : Value} (R : DiffRel w a b k v wr) : OwnW wr w.heap.size v (diffL a b k) := R.own
end Go.Proofs.Ytndoedcaoklfgaa
