/-
  Texts of one layer, one behind the other: memory, contracts of the functions, and what follows of them.
  Conditions: as each theorem says.
-/
import Derived.Test.YtcbdbflgfhbikaaGreatLTxb
set_option linter.unusedVariables false
set_option linter.unusedSimpArgs false
namespace Go.Proofs.YtcbdbflgfhbikaaGreat
open Go.RowKit
section
variable {w wr w' : World} {T M B D bx : Nat} {wv : Value} {ws : List Nat} {l l' l2 : List (Nat × Nat)}
end
def KW (w : World) (R : Option Nat) (base : Nat) (v : Value) (xs : List Nat) : Prop := OwnW w base v xs ∧ ∀ g, v.ownBlock = some g → R ≠ some g
structure Keep (w : World) (R : Option Nat) (w' : World) (R' : Option Nat) : Prop where
  size : w.heap.size ≤ w'.heap.size
  row : ∀ {base : Nat} {v : Value} {xs : List Nat}, KW w R base v xs → KW w' R' base v xs
  puts : ∀ {base : Nat} {v : Value} {xs : List (Nat × Nat)}, OwnP w base v xs → OwnP w' base v xs
  far : ∀ {b : Nat} {c : Array Value} {t : TypeId}, w.heap[b]? = some (.cells c t (0, 0)) → t ≠ 96 → t ≠ 23 → w'.heap[b]? = some (.cells c t (0, 0))
section
variable {w0 w w' w2 : World} {T : Nat} {R R' R2 : Option Nat} {ws : List Nat} {base : Nat} {v : Value} {xs : List Nat}
theorem KW.later (h : KW w R base v xs) (hg : w.grownBy w' none) : KW w' R base v xs := ⟨h.1.later hg, h.2⟩
theorem KW.mono {b : Nat} (h : KW w R base v xs) (hb : b ≤ base) : KW w R b v xs := ⟨h.1.mono hb, h.2⟩
theorem Keep.of_grown (hg : w.grownBy w' none) : Keep w R w' R := ⟨hg.size, fun h => h.later hg, fun h => own_kept h hg, fun h _ _ => (hg.block _ (lt_of_block h) (by simp)).trans h⟩
theorem Keep.trans (h : Keep w R w' R') (k : Keep w' R' w2 R2) : Keep w R w2 R2 := ⟨Nat.le_trans h.size k.size, fun a => k.row (h.row a), fun a => k.puts (h.puts a), fun a b c => k.far (h.far a b c) b c⟩
theorem step_keep {M B D : Nat} {l l' : List (Nat × Nat)} (h : Txs w0 w T M R B D ws l) (ht : Thought w T M R B D ws l' w') : ∃ R', Txs w0 w' T M R' B D ws l' ∧ Keep w R w' R' := by
  obtain ⟨R', h1, h2, h3⟩ := h.step ht
  refine ⟨R', h1, ⟨h2.size, fun {base v xs} a => ⟨a.1.past h.tx h2 a.2, fun g hg e => ?_⟩, fun a => a.past h.tx h2, fun a b c => h2.heap a (h.tx.far a b c)⟩⟩
  have hlt := (World.ownsRow.lt a.1 g hg).2
  rcases h3 with rfl | ⟨g', e', hg'⟩
  · exact a.2 g hg e
  · rw [e'] at e
    injection e with e
    omega
end
end Go.Proofs.YtcbdbflgfhbikaaGreat
