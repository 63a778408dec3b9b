/-
  The contract of the plain answer Check.
  Conditions: the words are a row of the call's own, or nil.
-/
import Derived.Test.YtndoedcaoklfgaaHeadB
import Derived.Test.YtndoedcaoklfgaaTxMath
import Derived.Deep.QuietTactic
import Derived.BigQuiet
namespace Go.Proofs.Ytndoedcaoklfgaa
open Go.RowKit
set_option linter.unusedVariables false
set_option linter.unusedSimpArgs false

theorem see_nil (ws : List Nat) (off : Nat) : txSee ws [] off = getW ws off := rfl
theorem getW_at {ws : List Nat} (q : Nat) (h : q < ws.length) : getW ws (8 * q) = ws.getD q 0 := by
  unfold getW
  rw [if_pos ⟨by omega, by omega⟩, show 8 * q / 8 = q by omega]
end Go.Proofs.Ytndoedcaoklfgaa
