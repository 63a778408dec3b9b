/-
  The contract of 'thought': a Tx over a segment, in which words were thought of, and the plain answer's.
  Conditions: the pairs lie in memory.
-/
import Derived.Test.YtkpopaadkfgjaaaTxY
namespace Go.Proofs.Ytkpopaadkfgjaaa
open Go.RowKit
set_option linter.unusedVariables false
set_option linter.unusedSimpArgs false

/-- A block of a plain answer's own is turned, and nothing of the Tx. -/
theorem Txs.other {w0 w w' : World} {T M : Nat} {R : Option Nat} {B D : Nat} {ws : List Nat} {l : List (Nat × Nat)} (h : Txs w0 w T M R B D ws l) {b : Nat} {c : Array Value} (hb : w.heap[b]? = some (.cells c 27 (0, 0))) (hn : w0.heap.size ≤ b) (hg : w.grownBy w' (some b)) : Txs w0 w' T M R B D ws l where
  tx := h.tx.turned (Turned.of_grown hg) (fun k hk => by
    injection hk with hk
    subst hk
    exact ⟨h.tx.far hb (by decide) (by decide), fun e => ne_type hb h.tx.seg.head (by decide) e, fun e => ne_type hb h.tx.seg.data (by decide) e⟩)
  since := grown_step h.since hg (fun i hi => .inl (by injection hi with hi; omega))
  newT := h.newT
  newM := h.newM
  newR := h.newR
  newB := h.newB
  newD := h.newD
theorem RTx.other {w w' : World} {base : Nat} {wv pv : Value} {ws : List Nat} {l : List (Nat × Nat)} (h : RTx w base wv pv ws l) {b : Nat} {c : Array Value} (hb : w.heap[b]? = some (.cells c 27 (0, 0))) (hg : w.grownBy w' (some b)) : RTx w' base wv pv ws l where
  words := row_turned h.words (Turned.of_grown hg) (fun g hg' e => by
    injection e with e
    subst e
    obtain ⟨_, cur, h4⟩ := row_block h.words hg'
    exact ne_type hb h4 (by decide) rfl)
  puts := row_turned h.puts (Turned.of_grown hg) (fun g hg' e => by
    injection e with e
    subst e
    obtain ⟨_, cur, h4⟩ := row_block h.puts hg'
    exact ne_type hb h4 (by decide) rfl)
/-- What holds at the head of the loop. -/
structure ThRel (w : World) (T M B D bx b6 : Nat) (wv : Value) (ws : List Nat) (l : List (Nat × Nat)) (wr : World) : Prop where
  tx : ∃ R, Txs w wr T M R B D ws l ∧ ∀ g, wv.ownBlock = some g → R ≠ some g
  box : ∃ pv, wr.heap[bx]? = some (.cells #[wv, pv] 27 (0, 0)) ∧ RTx wr w.heap.size wv pv ws l
  res : wr.heap[b6]? = some (.cells #[.slice none 0 0, .slice none 0 0] 27 (0, 0))
theorem ThRel.later {w w' wr : World} {T M B D bx b6 : Nat} {wv : Value} {ws : List Nat} {l : List (Nat × Nat)} (h : ThRel w T M B D bx b6 wv ws l wr) (hg : wr.grownBy w' none) : ThRel w T M B D bx b6 wv ws l w' := by
  obtain ⟨R, h1, h2⟩ := h.tx
  obtain ⟨pv, h3, h4⟩ := h.box
  exact ⟨⟨R, h1.later hg, h2⟩, ⟨pv, (hg.block _ (lt_of_block h3) (by simp)).trans h3, h4.later hg⟩, (hg.block _ (lt_of_block h.res) (by simp)).trans h.res⟩
/-- What Thought makes of it: the Tx has the word, the plain answer hasn't. -/
structure ThMid (w : World) (T M B D bx b6 : Nat) (wv : Value) (ws : List Nat) (l l' : List (Nat × Nat)) (wr : World) : Prop where
  tx : ∃ R, Txs w wr T M R B D ws l' ∧ ∀ g, wv.ownBlock = some g → R ≠ some g
  box : ∃ pv, wr.heap[bx]? = some (.cells #[wv, pv] 27 (0, 0)) ∧ RTx wr w.heap.size wv pv ws l
  res : wr.heap[b6]? = some (.cells #[.slice none 0 0, .slice none 0 0] 27 (0, 0))
theorem ThMid.later {w w' wr : World} {T M B D bx b6 : Nat} {wv : Value} {ws : List Nat} {l l' : List (Nat × Nat)} (h : ThMid w T M B D bx b6 wv ws l l' wr) (hg : wr.grownBy w' none) : ThMid w T M B D bx b6 wv ws l l' w' := by
  obtain ⟨R, h1, h2⟩ := h.tx
  obtain ⟨pv, h3, h4⟩ := h.box
  exact ⟨⟨R, h1.later hg, h2⟩, ⟨pv, (hg.block _ (lt_of_block h3) (by simp)).trans h3, h4.later hg⟩, (hg.block _ (lt_of_block h.res) (by simp)).trans h.res⟩
/-- The first store. -/
theorem ThRel.store {w wr : World} {T M B D bx b6 : Nat} {wv : Value} {ws : List Nat} {l : List (Nat × Nat)} (h : ThRel w T M B D bx b6 wv ws l wr) (off v : Nat) (ho : off < 18446744073709551616) (hv : v < 18446744073709551616) :
    Calls Try.prog 26 #[.pointer (some ⟨T, 0, none⟩), .int .u64 off, .int .u64 v] wr fun e w' => e = .returned (.tuple #[]) ∧ ThMid w T M B D bx b6 wv ws l (txStore ws l off v) w' := by
  obtain ⟨R, h1, h2⟩ := h.tx
  refine (txstore_any h1.tx off v ho hv).mono ?_
  rintro e w' ⟨rfl, ht⟩
  obtain ⟨R', k1, k2, k3⟩ := h1.step ht
  obtain ⟨pv, h3, h4⟩ := h.box
  refine ⟨rfl, ⟨R', k1, fun g hg => ?_⟩, ⟨pv, k2.heap h3 (h1.tx.far h3 (by decide) (by decide)), ⟨OwnW.past h1.tx k2 h4.words h2, OwnP.past h1.tx k2 h4.puts⟩⟩, k2.heap h.res (h1.tx.far h.res (by decide) (by decide))⟩
  rcases k3 with rfl | ⟨g', rfl, hg'⟩
  · exact h2 g hg
  · intro e
    injection e with e
    obtain ⟨_, cur, hb⟩ := row_block h4.words hg
    have := lt_of_block hb
    omega
/-- The second one. -/
theorem ThMid.stored {w wr w4 : World} {T M B D bx b6 : Nat} {wv pv' : Value} {ws : List Nat} {l l' : List (Nat × Nat)} (h : ThMid w T M B D bx b6 wv ws l l' wr) (hg : wr.grownBy w4 none) (hr : RTx w4 w.heap.size wv pv' ws l') (hbx : w.heap.size ≤ bx) (hne : bx ≠ b6) :
    ThRel w T M B D bx b6 wv ws l' ((w4.setCell ⟨bx, 0, none⟩ wv).setCell ⟨bx, 1, none⟩ pv') := by
  obtain ⟨R, h1, h2⟩ := h.tx
  obtain ⟨pv, h3, _⟩ := h.box
  have h3' := (hg.block _ (lt_of_block h3) (by simp)).trans h3
  have hs : w4.grownBy ((w4.setCell ⟨bx, 0, none⟩ wv).setCell ⟨bx, 1, none⟩ pv') (some bx) := grown_trans (grown_set _ _ _ _) (grown_set _ _ _ _)
  refine ⟨⟨R, (h1.later hg).other h3' hbx hs, h2⟩, ⟨pv', ?_, hr.other h3' hs⟩, ?_⟩
  · rw [heap_setCell_same (heap_setCell_same h3' wv) pv']; rfl
  · have := (hg.block _ (lt_of_block h.res) (by simp)).trans h.res
    exact (hs.block _ (lt_of_block this) (by simpa using hne.symm)).trans this
/-- What thought tells. -/
def Thought3 (w : World) (ws : List Nat) (l : List (Nat × Nat)) (e : Ending) (w' : World) : Prop :=
  ∃ B D T M R wv pv, e = .returned (.tuple #[.pointer (some ⟨B, 0, none⟩), .pointer (some ⟨T, 0, none⟩), .agg #[wv, pv]]) ∧ Txs w w' T M R B D ws l ∧ RTx w' w.heap.size wv pv ws l ∧ ∀ g, wv.ownBlock = some g → R ≠ some g
theorem wv_form {w : World} {base : Nat} {v : Value} {ws : List Nat} (h : OwnW w base v ws) : ∃ a n c, v = .slice a n c := by
  obtain ⟨a, c, h⟩ := h.slice
  exact ⟨a, _, c, h⟩
theorem pv_form {w : World} {base : Nat} {v : Value} {l : List (Nat × Nat)} (h : OwnP w base v l) : ∃ a n c, v = .slice a n c := by
  obtain ⟨a, c, g, h, _⟩ := h.addr
  exact ⟨a, _, c, h⟩
end Go.Proofs.Ytkpopaadkfgjaaa
