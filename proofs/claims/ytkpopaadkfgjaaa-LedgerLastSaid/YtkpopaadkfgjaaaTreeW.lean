/-
  Numbers of 64 bits that lie in memory one behind the other.
  No condition.
-/
import Derived.Test.YtkpopaadkfgjaaaLSeg
namespace Go.Proofs.Ytkpopaadkfgjaaa
open Go.RowKit
set_option linter.unusedVariables false
set_option linter.unusedSimpArgs false

/-- These numbers lie in memory, one behind the other, from la on. -/
structure WordsAt (w : World) (la : Option Addr) (l : List Nat) : Prop where
  cells : 0 < l.length → ∃ b off, la = some ⟨b, off, none⟩ ∧ b < w.heap.size ∧ ∀ i, i < l.length → w.cell? ⟨b, off + i, none⟩ = some (.int .u64 (l.getD i 0 : Nat))
section
variable {w w' : World} {la : Option Addr} {l : List Nat} {base : Nat} {v : Value}
theorem WordsAt.later (h : WordsAt w la l) (hg : w.grownBy w' none) : WordsAt w' la l where
  cells := fun hn => by
    obtain ⟨b, off, h1, h2, h3⟩ := h.cells hn
    exact ⟨b, off, h1, Nat.lt_of_lt_of_le h2 hg.size, fun i hi => (World.cell?_of_block (w := w) (a := ⟨b, off + i, none⟩) (hg.block b h2 (by simp))).trans (h3 i hi)⟩
theorem WordsAt.kept {g : Nat} (h : WordsAt w la l) (hg : w.grownBy w' (some g)) (hne : ∀ a, la = some a → a.block ≠ g) : WordsAt w' la l where
  cells := fun hn => by
    obtain ⟨b, off, h1, h2, h3⟩ := h.cells hn
    refine ⟨b, off, h1, Nat.lt_of_lt_of_le h2 hg.size, fun i hi => (World.cell?_of_block (w := w) (a := ⟨b, off + i, none⟩) (hg.block b h2 ?_)).trans (h3 i hi)⟩
    have := hne _ h1
    simpa using this
theorem OwnW.lie (h : OwnW w base v l) : ∃ la c, v = .slice la l.length c ∧ WordsAt w la l := by
  rcases h.2 with ⟨h1, h2⟩ | ⟨g, cap, cur, hv, hb⟩
  · exact ⟨none, 0, by rw [h1, h2], ⟨fun hn => by omega⟩⟩
  · subst hv
    refine ⟨_, _, rfl, ⟨fun _ => ⟨g, 0, rfl, (h.lt g rfl).2, fun i hi => ?_⟩⟩⟩
    rw [Nat.zero_add]
    exact OwnW.at_ h i hi
/-- the first ones of them -/
theorem WordsAt.take (h : WordsAt w la l) (n : Nat) : WordsAt w la (l.take n) where
  cells := fun hn => by
    rw [List.length_take] at hn
    obtain ⟨b, off, h1, h2, h3⟩ := h.cells (by omega)
    refine ⟨b, off, h1, h2, fun i hi => ?_⟩
    rw [List.length_take] at hi
    rw [h3 i (by omega), List.getD_eq_getElem?_getD, List.getD_eq_getElem?_getD, List.getElem?_take, if_pos (by omega)]
/-- the last ones of them -/
theorem WordsAt.drop {b off : Nat} (h : WordsAt w (some ⟨b, off, none⟩) l) (n : Nat) : WordsAt w (some ⟨b, off + n, none⟩) (l.drop n) where
  cells := fun hn => by
    rw [List.length_drop] at hn
    obtain ⟨b', off', h1, h2, h3⟩ := h.cells (by omega)
    injection h1 with h1
    injection h1 with e1 e2
    subst e1 e2
    refine ⟨b, off + n, rfl, h2, fun i hi => ?_⟩
    rw [List.length_drop] at hi
    have := h3 (n + i) (by omega)
    rw [List.getD_eq_getElem?_getD, List.getElem?_drop, ← List.getD_eq_getElem?_getD]
    rw [Nat.add_assoc]; exact this
end
end Go.Proofs.Ytkpopaadkfgjaaa
