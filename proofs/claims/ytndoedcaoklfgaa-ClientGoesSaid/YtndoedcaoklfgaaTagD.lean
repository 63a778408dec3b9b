/-
  Package tag: the contracts of the plain answers in and Read.
  Conditions: the plain Tx stands in memory; the numbers are of 64 bits.
-/
import Derived.Test.YtndoedcaoklfgaaTagC
import Derived.Test.YtndoedcaoklfgaaTxR
import Derived.Test.YtndoedcaoklfgaaHeldS
import Derived.StillTailTactics
import Derived.BigQuiet
namespace Go.Proofs.Ytndoedcaoklfgaa
open Go.RowKit
set_option linter.unusedVariables false
set_option linter.unusedSimpArgs false

section
variable {w : World} {base : Nat} {wv pv : Value} {ws : List Nat} {l : List (Nat × Nat)}
/-- two blocks, one behind the other, and what is made behind them -/
theorem two_first {w w' : World} {a b c x y : Value} {t t2 : TypeId} (hg : ((w.alloc (.cells #[x, y] t)).alloc (.cells #[a, b, c] t2)).grownBy w' none) :
    w'.heap[w.heap.size]? = some (.cells #[x, y] t (0, 0)) ∧ w'.heap[w.heap.size + 1]? = some (.cells #[a, b, c] t2 (0, 0)) := by
  have h1 : (w.alloc (.cells #[x, y] t)).heap[w.heap.size]? = some (.cells #[x, y] t (0, 0)) := heap_alloc_new' _ _
  have h2 := ((World.grownBy_alloc (w.alloc (.cells #[x, y] t)) (.cells #[a, b, c] t2) none).block _ (lt_of_block h1) (by simp)).trans h1
  have h3 := heap_alloc_new' (w.alloc (.cells #[x, y] t)) (.cells #[a, b, c] t2)
  rw [World.size_alloc] at h3
  exact ⟨(hg.block _ (lt_of_block h2) (by simp)).trans h2, (hg.block _ (lt_of_block h3) (by simp)).trans h3⟩
theorem two_cells {w : World} {b : Nat} {x y : Value} {t : TypeId} (h : w.heap[b]? = some (.cells #[x, y] t (0, 0))) : w.cell? ⟨b, 0, none⟩ = some x ∧ w.cell? ⟨b, 1, none⟩ = some y := by
  exact ⟨by simp [World.cell?, h], by simp [World.cell?, h]⟩
end
end Go.Proofs.Ytndoedcaoklfgaa
