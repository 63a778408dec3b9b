/-
  The plain answer of layer 9: Check.
  Conditions: the words, and the pairs, are rows of the call's own, or nil; the numbers lie in memory; they are at most a million.
-/
import Derived.Test.YtoamlkljfmgomaaGreatLedB
import Derived.Test.YtoamlkljfmgomaaGreatLTx
import Derived.Deep.RegionHeld3
namespace Go.Proofs.YtoamlkljfmgomaaGreat
open Go.RowKit
set_option linter.unusedVariables false
set_option linter.unusedSimpArgs false
set_option maxRecDepth 100000

theorem ckL_iff (f : Nat → Nat) (hd : Nat) (l : List Nat) : ckL f hd l ↔ hd = l.headD 0 ∧ ∀ i, i < l.length → ckAt f l i := by
  unfold ckL
  rw [strungW_at]
  exact Iff.rfl
theorem headD_get (l : List Nat) : l.headD 0 = l.getD 0 0 := by cases l <;> rfl
section
variable {w : World} {base : Nat} {wv pv : Value} {ws : List Nat} {l : List (Nat × Nat)}
end
end Go.Proofs.YtoamlkljfmgomaaGreat
