/-
  What most statements of layer 6 begin with: a formatted segment of 4480 bytes, in which blocks are laid, and then other words (laid).
  Conditions: the pieces and the pairs lie in memory.
-/
import Derived.Test.YtkpopaadkfgjaaaPhysN
namespace Go.Proofs.Ytkpopaadkfgjaaa
open Go.RowKit
set_option linter.unusedVariables false
set_option linter.unusedSimpArgs false

/-- words that are thought of, and k pairs more -/
def thinkF (ws : List Nat) (l : List (Nat × Nat)) (X V : Nat → Nat) : Nat → List (Nat × Nat)
  | 0 => l
  | k + 1 => txStore ws (thinkF ws l X V k) (X k) (V k)
theorem thinkF_ok {ws : List Nat} {l : List (Nat × Nat)} {X V : Nat → Nat} (h : TxOk ws l) (hV : ∀ i, V i < 18446744073709551616) : ∀ k, TxOk ws (thinkF ws l X V k) := by
  intro k
  induction k with
  | zero => exact h
  | succ k ih => exact ih.store _ (hV k)
theorem store_take {ws : List Nat} {l : List (Nat × Nat)} (h : TxOk ws l) {k : Nat} (hk : k < l.length) : txStore ws (l.take k) (txX l k) (txV l k) = l.take (k + 1) := by
  have hp : (txX l k, txV l k) = l[k] := by
    unfold txX txV
    rw [List.getD_eq_getElem?_getD, List.getElem?_eq_getElem hk]
    rfl
  have hmem : (txX l k, txV l k) ∈ l := by rw [hp]; exact List.getElem_mem hk
  have hs : stands ws (txX l k) := h.stand _ hmem
  have hn : txGet (l.take k) (txX l k) = none := by
    rw [txGet_none]
    intro hx
    unfold txKeys at hx
    rw [List.mem_map] at hx
    obtain ⟨p, hp1, hp2⟩ := hx
    obtain ⟨j, hj, hje⟩ := List.mem_iff_getElem.1 hp1
    have hjk : j < k := by simp at hj; omega
    rw [List.getElem_take] at hje
    refine h.apart hk hjk ?_
    rw [← hp2, ← hje]
    unfold txX
    rw [List.getD_eq_getElem?_getD, List.getElem?_eq_getElem (by omega)]
    rfl
  unfold txStore
  rw [if_pos hs, txSet_new _ hn, hp, List.take_succ_eq_append_getElem hk]
section
variable {w wr : World} {T M B D bx b6 : Nat} {wv : Value} {ws : List Nat} {l l' : List (Nat × Nat)}
/-- the plain answer's words are others -/
theorem ThMid.told {w4 : World} {pv' : Value} {l2 : List (Nat × Nat)} (h : ThMid w T M B D bx b6 wv ws l l' wr) (hg : wr.grownBy w4 none) (hr : RTx w4 w.heap.size wv pv' ws l2) (hbx : w.heap.size ≤ bx) (hne : bx ≠ b6) :
    ThMid w T M B D bx b6 wv ws l2 l' ((w4.setCell ⟨bx, 0, none⟩ wv).setCell ⟨bx, 1, none⟩ pv') := by
  obtain ⟨R, h1, h2⟩ := h.tx
  obtain ⟨pv, h3, _⟩ := h.box
  have h3' := (hg.block _ (lt_of_block h3) (by simp)).trans h3
  have hs : w4.grownBy ((w4.setCell ⟨bx, 0, none⟩ wv).setCell ⟨bx, 1, none⟩ pv') (some bx) := grown_trans (grown_set _ _ _ _) (grown_set _ _ _ _)
  refine ⟨⟨R, (h1.later hg).other h3' hbx hs, h2⟩, ⟨pv', ?_, hr.other h3' hs⟩, ?_⟩
  · rw [heap_setCell_same (heap_setCell_same h3' wv) pv']; rfl
  · have := (hg.block _ (lt_of_block h.res) (by simp)).trans h.res
    exact (hs.block _ (lt_of_block this) (by simpa using hne.symm)).trans this
/-- the program's Tx has a word more -/
theorem ThMid.more (h : ThMid w T M B D bx b6 wv ws l l' wr) (off v : Nat) (ho : off < 18446744073709551616) (hv : v < 18446744073709551616) :
    Calls Try.prog 26 #[.pointer (some ⟨T, 0, none⟩), .int .u64 off, .int .u64 v] wr fun e w' => e = .returned (.tuple #[]) ∧ ThMid w T M B D bx b6 wv ws l (txStore ws l' off v) w' := by
  obtain ⟨R, h1, h2⟩ := h.tx
  refine (txstore_any h1.tx off v ho hv).mono ?_
  rintro e w' ⟨rfl, ht⟩
  obtain ⟨R', k1, k2, k3⟩ := h1.step ht
  obtain ⟨pv, h3, h4⟩ := h.box
  refine ⟨rfl, ⟨R', k1, fun g hg => ?_⟩, ⟨pv, k2.heap h3 (h1.tx.far h3 (by decide) (by decide)), ⟨OwnW.past h1.tx k2 h4.words h2, OwnP.past h1.tx k2 h4.puts⟩⟩, k2.heap h.res (h1.tx.far h.res (by decide) (by decide))⟩
  rcases k3 with rfl | ⟨g', rfl, hg'⟩
  · exact h2 g hg
  · intro e
    injection e with e
    obtain ⟨_, cur, hb⟩ := row_block h4.words hg
    have := lt_of_block hb
    omega
end
theorem Txs.from {w W0 w1 : World} {T M : Nat} {R : Option Nat} {B D : Nat} {ws : List Nat} {l : List (Nat × Nat)} (hg : w.grownBy W0 none) (h : Txs W0 w1 T M R B D ws l) : Txs w w1 T M R B D ws l where
  tx := h.tx
  since := grown_trans hg h.since
  newT := Nat.le_trans hg.size h.newT
  newM := Nat.le_trans hg.size h.newM
  newR := fun g e => Nat.le_trans hg.size (h.newR g e)
  newB := Nat.le_trans hg.size h.newB
  newD := Nat.le_trans hg.size h.newD
theorem RTx.mono {w : World} {base base' : Nat} {wv pv : Value} {ws : List Nat} {l : List (Nat × Nat)} (h : RTx w base wv pv ws l) (hb : base' ≤ base) : RTx w base' wv pv ws l := ⟨h.words.mono hb, World.ownsRow.mono h.puts hb⟩
/-- What laid tells: L is what the plain answer has thought of. -/
def Laid0 (w : World) (X V : Nat → Nat) (m : Nat) (e : Ending) (w' : World) : Prop :=
  ∃ l N, Laid6 l N ∧ Formed w (fmt48 4480) (thinkF (fmt48 4480) l X V m) e w'
end Go.Proofs.Ytkpopaadkfgjaaa
