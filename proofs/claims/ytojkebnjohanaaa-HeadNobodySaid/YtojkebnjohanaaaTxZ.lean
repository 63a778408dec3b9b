/-
  The contract of 'thought': a Tx over a segment, in which words were thought of, and the plain answer's.
  Conditions: the pairs lie in memory.
-/
import Derived.Test.YtojkebnjohanaaaTxY
namespace Go.Proofs.Ytojkebnjohanaaa
open Go.RowKit
set_option linter.unusedVariables false
set_option linter.unusedSimpArgs false

/-- What thought tells. -/
def Thought3 (w : World) (ws : List Nat) (l : List (Nat × Nat)) (e : Ending) (w' : World) : Prop :=
  ∃ B D T M R wv pv, e = .returned (.tuple #[.pointer (some ⟨B, 0, none⟩), .pointer (some ⟨T, 0, none⟩), .agg #[wv, pv]]) ∧ Txs w w' T M R B D ws l ∧ RTx w' w.heap.size wv pv ws l ∧ ∀ g, wv.ownBlock = some g → R ≠ some g
theorem wv_form {w : World} {base : Nat} {v : Value} {ws : List Nat} (h : OwnW w base v ws) : ∃ a n c, v = .slice a n c := by
  obtain ⟨a, c, h⟩ := h.slice
  exact ⟨a, _, c, h⟩
theorem pv_form {w : World} {base : Nat} {v : Value} {l : List (Nat × Nat)} (h : OwnP w base v l) : ∃ a n c, v = .slice a n c := by
  obtain ⟨a, c, g, h, _⟩ := h.addr
  exact ⟨a, _, c, h⟩
end Go.Proofs.Ytojkebnjohanaaa
