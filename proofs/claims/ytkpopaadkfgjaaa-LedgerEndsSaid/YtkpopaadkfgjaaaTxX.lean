/-
  A Tx of the call's own, over a segment of the call's own: what stays of it, and of what else the call has made, step by step. Plain memory.
  No condition.
-/
import Derived.Test.YtkpopaadkfgjaaaTxW
namespace Go.Proofs.Ytkpopaadkfgjaaa
open Go.RowKit
set_option linter.unusedVariables false
set_option linter.unusedSimpArgs false

/-- In w, which has all that w0 had: a Tx of blocks that are not w0's. -/
structure Txs (w0 w : World) (T M : Nat) (R : Option Nat) (B D : Nat) (ws : List Nat) (l : List (Nat × Nat)) : Prop where
  tx : Thinks w T M R B D ws l
  since : w0.grownBy w none
  newT : w0.heap.size ≤ T
  newM : w0.heap.size ≤ M
  newR : ∀ g, R = some g → w0.heap.size ≤ g
  newB : w0.heap.size ≤ B
  newD : w0.heap.size ≤ D
section
variable {w0 w w' : World} {T M : Nat} {R : Option Nat} {B D : Nat} {ws ws' : List Nat} {l l' : List (Nat × Nat)}
theorem Txs.later (h : Txs w0 w T M R B D ws l) (hg : w.grownBy w' none) : Txs w0 w' T M R B D ws l :=
  ⟨h.tx.later hg, grown_trans h.since hg, h.newT, h.newM, h.newR, h.newB, h.newD⟩
theorem Txs.foot_new (h : Txs w0 w T M R B D ws l) {k : Nat} (hk : foot T M R k) : w0.heap.size ≤ k := by
  rcases hk with rfl | rfl | hk
  · exact h.newT
  · exact h.newM
  · exact h.newR _ hk
/-- a step that turns the Tx's own blocks alone -/
theorem Txs.step (h : Txs w0 w T M R B D ws l) (ht : Thought w T M R B D ws l' w') :
    ∃ R', Txs w0 w' T M R' B D ws l' ∧ Turned (foot T M R) w w' ∧ (R' = R ∨ ∃ g, R' = some g ∧ w.heap.size ≤ g) := by
  obtain ⟨R', h1, h2, h3⟩ := ht
  refine ⟨R', ⟨h1, ?_, h.newT, h.newM, ?_, h.newB, h.newD⟩, h2, h3⟩
  · exact ((Turned.of_none h.since (foot T M R)).trans h2 (fun i hi => .inl hi)).grown (fun i hi => h.foot_new hi)
  · intro g hg
    rcases h3 with rfl | ⟨g', rfl, hg'⟩
    · exact h.newR g hg
    · injection hg with hg
      subst hg
      exact Nat.le_trans h.since.size hg'
/-- a step that turns the segment's bytes alone -/
theorem Txs.seg (h : Txs w0 w T M R B D ws l) (hg : w.grownBy w' (some D)) (ht : Thinks w' T M R B D ws' l) : Txs w0 w' T M R B D ws' l :=
  ⟨ht, grown_step h.since hg (fun i hi => .inl (by injection hi with hi; subst hi; exact h.newD)), h.newT, h.newM, h.newR, h.newB, h.newD⟩
theorem Txs.seg_store (h : Txs w0 w T M R B D ws l) (hg : w.grownBy w' (some D)) (hs : IsSeg w' B D ws') (hl : ws'.length = ws.length) : Txs w0 w' T M R B D ws' l :=
  h.seg hg (h.tx.seg_turned hg hs hl)
end
/-! ### What else the call has, behind such a step -/
section
variable {w w' : World} {T M : Nat} {R : Option Nat} {B D : Nat} {ws : List Nat} {l : List (Nat × Nat)}
/-- a row of words that isn't the Tx's row -/
theorem OwnW.past (h : Thinks w T M R B D ws l) (ht : Turned (foot T M R) w w') {base : Nat} {v : Value} {xs : List Nat} (ho : OwnW w base v xs) (hne : ∀ g, v.ownBlock = some g → R ≠ some g) : OwnW w' base v xs :=
  row_turned ho ht (fun g hg hf => by
    obtain ⟨_, cur, hb⟩ := row_block ho hg
    obtain ⟨tv, h1, _⟩ := h.head
    obtain ⟨Da, h2, _⟩ := h.map
    obtain ⟨es, clock, h2⟩ := map_block h2
    rcases hf with e | e | e
    · exact ne_type h1 hb (by decide) e.symm
    · exact ne_map hb h2 e
    · exact hne g hg e)
theorem OwnP.past (h : Thinks w T M R B D ws l) (ht : Turned (foot T M R) w w') {base : Nat} {v : Value} {xs : List (Nat × Nat)} (ho : OwnP w base v xs) : OwnP w' base v xs :=
  row_turned ho ht (fun g hg hf => by
    obtain ⟨_, cur, hb⟩ := row_block ho hg
    obtain ⟨tv, h1, _⟩ := h.head
    obtain ⟨Da, h2, _⟩ := h.map
    obtain ⟨es, clock, h2⟩ := map_block h2
    rcases hf with e | e | e
    · exact ne_type h1 hb (by decide) e.symm
    · exact ne_map hb h2 e
    · obtain ⟨c2, hr⟩ := h.row e
      exact ne_type hb hr (by decide) rfl)
/-- a block of another type's -/
theorem Thinks.far (h : Thinks w T M R B D ws l) {b : Nat} {c : Array Value} {t : TypeId} {fr : Nat × Nat} (hb : w.heap[b]? = some (.cells c t fr)) (h1 : t ≠ 89) (h2 : t ≠ 30) : ¬ foot T M R b := by
  obtain ⟨tv, k1, _⟩ := h.head
  obtain ⟨Da, k2, _⟩ := h.map
  obtain ⟨es, clock, k2⟩ := map_block k2
  rintro (e | e | e)
  · exact ne_type hb k1 h1 e
  · exact ne_map hb k2 e
  · obtain ⟨c2, hr⟩ := h.row e
    exact ne_type hb hr h2 rfl
theorem OwnW.past_seg (h : IsSeg w B D ws) (hg : w.grownBy w' (some D)) {base : Nat} {v : Value} {xs : List Nat} (ho : OwnW w base v xs) : OwnW w' base v xs :=
  row_turned ho (Turned.of_grown hg) (fun g hg' e => by
    injection e with e
    subst e
    obtain ⟨_, cur, hb⟩ := row_block ho hg'
    exact ne_type h.data hb (by decide) rfl)
theorem OwnP.past_seg (h : IsSeg w B D ws) (hg : w.grownBy w' (some D)) {base : Nat} {v : Value} {xs : List (Nat × Nat)} (ho : OwnP w base v xs) : OwnP w' base v xs :=
  row_turned ho (Turned.of_grown hg) (fun g hg' e => by
    injection e with e
    subst e
    obtain ⟨_, cur, hb⟩ := row_block ho hg'
    exact ne_type h.data hb (by decide) rfl)
end
/-- words that are thought of, k pairs of a list, one behind the other -/
def thinkL (ws : List Nat) (X V : Nat → Nat) : Nat → List (Nat × Nat)
  | 0 => []
  | k + 1 => txStore ws (thinkL ws X V k) (X k) (V k)
theorem thinkL_ok {ws : List Nat} {X V : Nat → Nat} (hV : ∀ i, V i < 18446744073709551616) : ∀ k, TxOk ws (thinkL ws X V k)
  | 0 => TxOk.empty _
  | k + 1 => (thinkL_ok hV k).store _ (hV k)
end Go.Proofs.Ytkpopaadkfgjaaa
