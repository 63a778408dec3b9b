/-
  A Tx and the plain answer's value beside it, deed by deed.
  No condition.
-/
import Derived.Test.YtndoedcaoklfgaaCliG
namespace Go.Proofs.Ytndoedcaoklfgaa
open Go.RowKit
set_option linter.unusedVariables false
set_option linter.unusedSimpArgs false
set_option maxRecDepth 100000

/-- What holds at the head of the loop. -/
structure PlRel (w : World) (T M B D bx : Nat) (wv : Value) (ws : List Nat) (l : List (Nat × Nat)) (wr : World) : Prop where
  tx : ∃ R, Txs w wr T M R B D ws l ∧ ∀ g, wv.ownBlock = some g → R ≠ some g
  box : ∃ pv, wr.heap[bx]? = some (.cells #[wv, pv] 29 (0, 0)) ∧ RTx wr w.heap.size wv pv ws l
theorem PlRel.later {w w' wr : World} {T M B D bx : Nat} {wv : Value} {ws : List Nat} {l : List (Nat × Nat)} (h : PlRel w T M B D bx wv ws l wr) (hg : wr.grownBy w' none) : PlRel w T M B D bx wv ws l w' := by
  obtain ⟨R, h1, h2⟩ := h.tx
  obtain ⟨pv, h3, h4⟩ := h.box
  exact ⟨⟨R, h1.later hg, h2⟩, ⟨pv, (hg.block _ (lt_of_block h3) (by simp)).trans h3, h4.later hg⟩⟩
/-- The Tx has the deed, the plain answer hasn't. -/
structure PlMid (w : World) (T M B D bx : Nat) (wv : Value) (ws : List Nat) (l l' : List (Nat × Nat)) (wr : World) : Prop where
  tx : ∃ R, Txs w wr T M R B D ws l' ∧ ∀ g, wv.ownBlock = some g → R ≠ some g
  box : ∃ pv, wr.heap[bx]? = some (.cells #[wv, pv] 29 (0, 0)) ∧ RTx wr w.heap.size wv pv ws l
theorem PlMid.later {w w' wr : World} {T M B D bx : Nat} {wv : Value} {ws : List Nat} {l l' : List (Nat × Nat)} (h : PlMid w T M B D bx wv ws l l' wr) (hg : wr.grownBy w' none) : PlMid w T M B D bx wv ws l l' w' := by
  obtain ⟨R, h1, h2⟩ := h.tx
  obtain ⟨pv, h3, h4⟩ := h.box
  exact ⟨⟨R, h1.later hg, h2⟩, ⟨pv, (hg.block _ (lt_of_block h3) (by simp)).trans h3, h4.later hg⟩⟩
/-- The deed. -/
theorem PlRel.deal {w wr : World} {T M B D bx : Nat} {wv : Value} {ws : List Nat} {l : List (Nat × Nat)} (h : PlRel w T M B D bx wv ws l wr) (a c : Int) (off : Nat) (ho : off < 18446744073709551616) :
    Calls Try.prog 11 #[.pointer (some ⟨T, 0, none⟩), .agg #[.int .i64 a, .int .i64 c, .int .u64 off]] wr fun e w' => e = .returned (.int .i64 (dealE ws l a c : Nat)) ∧ PlMid w T M B D bx wv ws l (dealL ws l a c off) w' := by
  obtain ⟨R, h1, h2⟩ := h.tx
  refine (do8_any h1.tx a c off ho).mono ?_
  rintro e w' ⟨rfl, ht⟩
  obtain ⟨R', k1, k2, k3⟩ := h1.step ht
  obtain ⟨pv, h3, h4⟩ := h.box
  refine ⟨rfl, ⟨R', k1, fun g hg => ?_⟩, ⟨pv, k2.heap h3 (h1.tx.far h3 (by decide) (by decide)), ⟨OwnW.past h1.tx k2 h4.words h2, OwnP.past h1.tx k2 h4.puts⟩⟩⟩
  rcases k3 with rfl | ⟨g', rfl, hg'⟩
  · exact h2 g hg
  · intro e
    injection e with e
    obtain ⟨_, cur, hb⟩ := row_block h4.words hg
    have := lt_of_block hb
    omega
/-- .. and the plain answer's value. -/
theorem PlMid.stored {w wr w4 : World} {T M B D bx : Nat} {wv pv' : Value} {ws : List Nat} {l l' : List (Nat × Nat)} (h : PlMid w T M B D bx wv ws l l' wr) (hg : wr.grownBy w4 none) (hr : RTx w4 w.heap.size wv pv' ws l') (hbx : w.heap.size ≤ bx) :
    PlRel w T M B D bx wv ws l' ((w4.setCell ⟨bx, 0, none⟩ wv).setCell ⟨bx, 1, none⟩ pv') := by
  obtain ⟨R, h1, h2⟩ := h.tx
  obtain ⟨pv, h3, _⟩ := h.box
  have h3' := (hg.block _ (lt_of_block h3) (by simp)).trans h3
  have hs : w4.grownBy ((w4.setCell ⟨bx, 0, none⟩ wv).setCell ⟨bx, 1, none⟩ pv') (some bx) := grown_trans (grown_set _ _ _ _) (grown_set _ _ _ _)
  refine ⟨⟨R, (h1.later hg).other h3' hbx hs, h2⟩, ⟨pv', ?_, hr.other h3' hs⟩⟩
  rw [heap_setCell_same (heap_setCell_same h3' wv) pv']; rfl
theorem PlRel.since {w wr : World} {T M B D bx : Nat} {wv : Value} {ws : List Nat} {l : List (Nat × Nat)} (h : PlRel w T M B D bx wv ws l wr) : w.grownBy wr none := by obtain ⟨R, h1, _⟩ := h.tx; exact h1.since
theorem PlMid.since {w wr : World} {T M B D bx : Nat} {wv : Value} {ws : List Nat} {l l' : List (Nat × Nat)} (h : PlMid w T M B D bx wv ws l l' wr) : w.grownBy wr none := by obtain ⟨R, h1, _⟩ := h.tx; exact h1.since
theorem deal_did {a : Int} (h1 : 1 ≤ a) (h4 : a ≤ 4) (ws : List Nat) (l : List (Nat × Nat)) (c : Int) (off : Nat) : dealL ws l a c off = didL ws l a c ∧ dealE ws l a c = didE ws l a c := by
  unfold dealL dealE didL didE
  rcases (show a = 1 ∨ a = 2 ∨ a = 3 ∨ a = 4 by omega) with rfl | rfl | rfl | rfl <;> exact ⟨rfl, rfl⟩
theorem deal_point (ws : List Nat) (l : List (Nat × Nat)) (c : Int) (off : Nat) : dealL ws l 5 c off = cSet ws l c 8 off ∧ dealE ws l 5 c = 0 := ⟨rfl, rfl⟩
end Go.Proofs.Ytndoedcaoklfgaa
