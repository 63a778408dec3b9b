/-
  Package seg: Diff's walk.
  Conditions: both segments are nobody's, or stand in memory.
-/
import Derived.Test.YtkpopaadkfgjaaaSegH
namespace Go.Proofs.Ytkpopaadkfgjaaa
open Go.RowKit
set_option linter.unusedVariables false
set_option linter.unusedSimpArgs false

/-- What Diff tells: the offsets of unlike words, in a row of its own, or nil; nothing that was there has turned. -/
def DiffPost (w : World) (a b : List Nat) (e : Ending) (w' : World) : Prop :=
  ∃ v, e = .returned v ∧ DiffRel w a b (max a.length b.length) v w'
end Go.Proofs.Ytkpopaadkfgjaaa
