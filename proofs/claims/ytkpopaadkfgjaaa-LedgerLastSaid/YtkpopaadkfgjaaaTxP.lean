/-
  A Tx, and the plain answer's value in a box beside it: what each of them has thought of.
  No condition.
-/
import Derived.Test.YtkpopaadkfgjaaaTxZ
namespace Go.Proofs.Ytkpopaadkfgjaaa
open Go.RowKit
set_option linter.unusedVariables false
set_option linter.unusedSimpArgs false

/-- The Tx has l', the plain answer's value (in block bx) has l; all of it is newer than w. -/
structure Duo (w : World) (T M B D bx : Nat) (wv : Value) (ws : List Nat) (l l' : List (Nat × Nat)) (wr : World) : Prop where
  tx : ∃ R, Txs w wr T M R B D ws l' ∧ ∀ g, wv.ownBlock = some g → R ≠ some g
  box : ∃ pv, wr.heap[bx]? = some (.cells #[wv, pv] 27 (0, 0)) ∧ RTx wr w.heap.size wv pv ws l
section
variable {w wr w' : World} {T M B D bx : Nat} {wv : Value} {ws : List Nat} {l l' l2 : List (Nat × Nat)}
theorem Duo.later (h : Duo w T M B D bx wv ws l l' wr) (hg : wr.grownBy w' none) : Duo w T M B D bx wv ws l l' w' := by
  obtain ⟨R, h1, h2⟩ := h.tx
  obtain ⟨pv, h3, h4⟩ := h.box
  exact ⟨⟨R, h1.later hg, h2⟩, ⟨pv, (hg.block _ (lt_of_block h3) (by simp)).trans h3, h4.later hg⟩⟩
theorem Duo.since (h : Duo w T M B D bx wv ws l l' wr) : w.grownBy wr none := by obtain ⟨R, h1, _⟩ := h.tx; exact h1.since
/-- The Tx thinks of more. -/
theorem Duo.step (h : Duo w T M B D bx wv ws l l' wr) {R : Option Nat} (h1 : Txs w wr T M R B D ws l') (h2 : ∀ g, wv.ownBlock = some g → R ≠ some g) (ht : Thought wr T M R B D ws l2 w') : Duo w T M B D bx wv ws l l2 w' := by
  obtain ⟨R', k1, k2, k3⟩ := h1.step ht
  obtain ⟨pv, h3, h4⟩ := h.box
  refine ⟨⟨R', k1, fun g hg => ?_⟩, ⟨pv, k2.heap h3 (h1.tx.far h3 (by decide) (by decide)), ⟨OwnW.past h1.tx k2 h4.words h2, OwnP.past h1.tx k2 h4.puts⟩⟩⟩
  rcases k3 with rfl | ⟨g', rfl, hg'⟩
  · exact h2 g hg
  · intro e
    injection e with e
    obtain ⟨_, cur, hb⟩ := row_block h4.words hg
    have := lt_of_block hb
    omega
/-- .. or the plain answer's value, in its box. -/
theorem Duo.told (h : Duo w T M B D bx wv ws l l' wr) (hg : wr.grownBy w' none) {pv : Value} (hr : RTx w' w.heap.size wv pv ws l2) (hbx : w.heap.size ≤ bx) :
    Duo w T M B D bx wv ws l2 l' ((w'.setCell ⟨bx, 0, none⟩ wv).setCell ⟨bx, 1, none⟩ pv) := by
  obtain ⟨R, h1, h2⟩ := h.tx
  obtain ⟨pv0, h3, _⟩ := h.box
  have h3' := (hg.block _ (lt_of_block h3) (by simp)).trans h3
  have hs : w'.grownBy ((w'.setCell ⟨bx, 0, none⟩ wv).setCell ⟨bx, 1, none⟩ pv) (some bx) := grown_trans (grown_set _ _ _ _) (grown_set _ _ _ _)
  refine ⟨⟨R, (h1.later hg).other h3' hbx hs, h2⟩, ⟨pv, ?_, hr.other h3' hs⟩⟩
  rw [heap_setCell_same (heap_setCell_same h3' wv) pv]; rfl
/-- A store of the Tx's. -/
theorem Duo.store (h : Duo w T M B D bx wv ws l l' wr) (off v : Nat) (ho : off < 18446744073709551616) (hv : v < 18446744073709551616) :
    Calls Try.prog 26 #[.pointer (some ⟨T, 0, none⟩), .int .u64 off, .int .u64 v] wr fun e w' => e = .returned (.tuple #[]) ∧ Duo w T M B D bx wv ws l (txStore ws l' off v) w' := by
  obtain ⟨R, h1, h2⟩ := h.tx
  refine (txstore_any h1.tx off v ho hv).mono ?_
  rintro e w' ⟨rfl, ht⟩
  exact ⟨rfl, h.step h1 h2 ht⟩
end
/-! ### What the caller has beside the Tx -/
/-- A row of the caller's, that isn't the Tx's. -/
def KW (w : World) (R : Option Nat) (base : Nat) (v : Value) (xs : List Nat) : Prop := OwnW w base v xs ∧ ∀ g, v.ownBlock = some g → R ≠ some g
/-- What the caller has is still there. -/
structure Keep (w : World) (R : Option Nat) (w' : World) (R' : Option Nat) : Prop where
  size : w.heap.size ≤ w'.heap.size
  row : ∀ {base : Nat} {v : Value} {xs : List Nat}, KW w R base v xs → KW w' R' base v xs
  puts : ∀ {base : Nat} {v : Value} {xs : List (Nat × Nat)}, OwnP w base v xs → OwnP w' base v xs
  far : ∀ {b : Nat} {c : Array Value} {t : TypeId}, w.heap[b]? = some (.cells c t (0, 0)) → t ≠ 89 → t ≠ 30 → w'.heap[b]? = some (.cells c t (0, 0))
section
variable {w0 w w' w2 : World} {T : Nat} {R R' R2 : Option Nat} {ws : List Nat} {base : Nat} {v : Value} {xs : List Nat}
theorem KW.later (h : KW w R base v xs) (hg : w.grownBy w' none) : KW w' R base v xs := ⟨h.1.later hg, h.2⟩
theorem KW.mono {b : Nat} (h : KW w R base v xs) (hb : b ≤ base) : KW w R b v xs := ⟨h.1.mono hb, h.2⟩
theorem Keep.of_grown (hg : w.grownBy w' none) : Keep w R w' R := ⟨hg.size, fun h => h.later hg, fun h => own_kept h hg, fun h _ _ => (hg.block _ (lt_of_block h) (by simp)).trans h⟩
theorem Keep.trans (h : Keep w R w' R') (k : Keep w' R' w2 R2) : Keep w R w2 R2 := ⟨Nat.le_trans h.size k.size, fun a => k.row (h.row a), fun a => k.puts (h.puts a), fun a b c => k.far (h.far a b c) b c⟩
theorem step_keep {M B D : Nat} {l l' : List (Nat × Nat)} (h : Txs w0 w T M R B D ws l) (ht : Thought w T M R B D ws l' w') : ∃ R', Txs w0 w' T M R' B D ws l' ∧ Keep w R w' R' := by
  obtain ⟨R', h1, h2, h3⟩ := h.step ht
  refine ⟨R', h1, ⟨h2.size, fun {base v xs} a => ⟨a.1.past h.tx h2 a.2, fun g hg e => ?_⟩, fun a => a.past h.tx h2, fun a b c => h2.heap a (h.tx.far a b c)⟩⟩
  have hlt := (World.ownsRow.lt a.1 g hg).2
  rcases h3 with rfl | ⟨g', e', hg'⟩
  · exact a.2 g hg e
  · rw [e'] at e
    injection e with e
    omega
end
end Go.Proofs.Ytkpopaadkfgjaaa
