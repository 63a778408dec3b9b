/-
  Package phys: what 'blocks' hands back, as an iterator: it tells each block in turn, and last what is none, whatever the loop's body does that keeps the Tx.
  Conditions: the Tx stands in memory.
-/
import Derived.Test.YtkpopaadkfgjaaaPhysM
import Derived.Test.YtkpopaadkfgjaaaLTx
namespace Go.Proofs.Ytkpopaadkfgjaaa
open Go.RowKit Go.Shelf
set_option linter.unusedVariables false
set_option linter.unusedSimpArgs false
attribute [local go_sem] Oper.semAt_some

/-- what the k-th round is handed -/
def bkV (f : Nat → Nat) (k : Nat) : Array Value := #[.agg (bkR f (offs f k)).row.toArray, .int .i64 (bkE f (offs f k) : Nat)]
/-- how many rounds there are -/
def bkN (N : Nat) (ok : Bool) : Nat := if ok then N else N + 1
/-- the row that the variable in block lb leads to -/
def RowAt (lb : Nat) (A : World) (b : Nat) : Prop := ∃ v : Value, A.cell? ⟨lb, 0, none⟩ = some v ∧ v.ownBlock = some b
theorem RowAt.back {lb : Nat} {A C : World} {row : Option Nat} {b : Nat} (h : RowAt lb C b) (hg : A.grownBy C row) (hlb : lb < A.heap.size) (hr : row ≠ some lb) : RowAt lb A b := by
  obtain ⟨v, h1, h2⟩ := h
  refine ⟨v, ?_, h2⟩
  have := hg.block lb hlb (fun e => hr e.symm)
  unfold World.cell? at h1 ⊢
  simp only [this] at h1
  exact h1
/-- a block of five cells at most -/
def Small (A : World) (b : Nat) : Prop := ∃ c t fr, A.heap[b]? = some (.cells c t fr) ∧ c.size ≤ 5
theorem Small.lt {A : World} {b : Nat} (h : Small A b) : b < A.heap.size := by
  obtain ⟨c, t, fr, h1, _⟩ := h
  exact lt_of_block h1
/-- What a body that goes on keeps: all that stood below n0; and all short blocks of cells but the variable in block lb, and the row that it leads to. -/
structure BkKeep (n0 lb : Nat) (A C : World) : Prop where
  below : Below n0 A C
  frame : ∀ b, Small A b → b ≠ lb → ¬ RowAt lb A b → C.heap[b]? = A.heap[b]?
  row : ∀ b, RowAt lb C b → RowAt lb A b ∨ (A.heap.size ≤ b ∧ b < C.heap.size) ∨ b = lb ∨ (b < A.heap.size ∧ ¬ Small A b)
theorem BkKeep.trans {n0 lb : Nat} {A C E : World} (h : BkKeep n0 lb A C) (k : BkKeep n0 lb C E) : BkKeep n0 lb A E where
  below := h.below.trans k.below
  frame := fun b hb hn hr => by
    have e := h.frame b hb hn hr
    have hs : Small C b := by
      obtain ⟨c, t, fr, h1, h2⟩ := hb
      exact ⟨c, t, fr, e.trans h1, h2⟩
    refine (k.frame b hs hn (fun hC => ?_)).trans e
    rcases h.row b hC with h1 | h1 | h1 | h1
    · exact hr h1
    · have := hb.lt; omega
    · exact hn h1
    · exact h1.2 hb
  row := fun b hb => by
    have h1 := h.below.size
    have h2 := k.below.size
    rcases k.row b hb with h3 | h3 | h3 | h3
    · rcases h.row b h3 with h4 | h4 | h4 | h4
      · exact .inl h4
      · exact .inr (.inl ⟨h4.1, by omega⟩)
      · exact .inr (.inr (.inl h4))
      · exact .inr (.inr (.inr h4))
    · exact .inr (.inl ⟨by omega, h3.2⟩)
    · exact .inr (.inr (.inl h3))
    · rcases Nat.lt_or_ge b A.heap.size with h5 | h5
      · by_cases h6 : b = lb
        · exact .inr (.inr (.inl h6))
        · by_cases h7 : RowAt lb A b
          · exact .inl h7
          · refine .inr (.inr (.inr ⟨h5, fun hs => h3.2 ?_⟩))
            have e := h.frame b hs h6 h7
            obtain ⟨c, t, fr, h1, h2⟩ := hs
            exact ⟨c, t, fr, e.trans h1, h2⟩
      · exact .inr (.inl ⟨h5, by omega⟩)
theorem BkKeep.put {n0 lb : Nat} {w0 : World} (hlb : lb < w0.heap.size) (hn : n0 ≤ w0.heap.size) (W : World) (l : Nat) (o o' : Obj) (hl : w0.heap.size ≤ l) (h : W.heap[l]? = some o) (hc : o.isCells = false) (hw : o.isWalk = false) : BkKeep n0 lb W (W.putObj l o') where
  below := belowK_b (w := w0) hn W l o o' hl h hc hw
  frame := fun b hb _ _ => World.putObj_heap_other (fun e => by
    obtain ⟨c, t, fr, hb, _⟩ := hb
    subst e; rw [h] at hb; cases hb; cases hc)
  row := fun b hb => .inl (by
    obtain ⟨v, h1, h2⟩ := hb
    refine ⟨v, ?_, h2⟩
    have : (W.putObj l o').heap[lb]? = W.heap[lb]? := World.putObj_heap_other (by omega)
    unfold World.cell? at h1 ⊢
    simp only [this] at h1
    exact h1)
theorem BkKeep.alloc {n0 lb : Nat} (W : World) (o : Obj) (hn : n0 ≤ W.heap.size) (hlb : lb < W.heap.size) : BkKeep n0 lb W (W.alloc o) where
  below := (Below.refl _ W).alloc hn _
  frame := fun b hb _ _ => Below.heap_alloc _ _ _ hb.lt
  row := fun b hb => .inl (hb.back (World.grownBy_alloc W o none) hlb (by simp))
section
variable {w : World} {T M : Nat} {R : Option Nat} {B D : Nat} {ws : List Nat} {l : List (Nat × Nat)}
end
end Go.Proofs.Ytkpopaadkfgjaaa
