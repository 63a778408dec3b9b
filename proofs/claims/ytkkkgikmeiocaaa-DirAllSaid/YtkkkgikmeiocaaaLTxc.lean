/-
  Texts of one layer, one behind the other: memory, contracts of the functions, and what follows of them.
  Conditions: as each theorem says.
-/
import Derived.Test.YtkkkgikmeiocaaaLTxb
set_option linter.unusedVariables false
set_option linter.unusedSimpArgs false
namespace Go.Proofs.Ytkkkgikmeiocaaa
open Go.RowKit
theorem Txs.other {w0 w w' : World} {T M : Nat} {R : Option Nat} {B D : Nat} {ws : List Nat} {l : List (Nat × Nat)} (h : Txs w0 w T M R B D ws l) {b : Nat} {c : Array Value} (hb : w.heap[b]? = some (.cells c 28 (0, 0))) (hn : w0.heap.size ≤ b) (hg : w.grownBy w' (some b)) : Txs w0 w' T M R B D ws l where
  tx := h.tx.turned (Turned.of_grown hg) (fun k hk => by
    injection hk with hk
    subst hk
    exact ⟨h.tx.far hb (by decide) (by decide), fun e => ne_type hb h.tx.seg.head (by decide) e, fun e => ne_type hb h.tx.seg.data (by decide) e⟩)
  since := grown_step h.since hg (fun i hi => .inl (by injection hi with hi; omega))
  newT := h.newT
  newM := h.newM
  newR := h.newR
  newB := h.newB
  newD := h.newD
theorem RTx.other {w w' : World} {base : Nat} {wv pv : Value} {ws : List Nat} {l : List (Nat × Nat)} (h : RTx w base wv pv ws l) {b : Nat} {c : Array Value} (hb : w.heap[b]? = some (.cells c 28 (0, 0))) (hg : w.grownBy w' (some b)) : RTx w' base wv pv ws l where
  words := row_turned h.words (Turned.of_grown hg) (fun g hg' e => by
    injection e with e
    subst e
    obtain ⟨_, cur, h4⟩ := row_block h.words hg'
    exact ne_type hb h4 (by decide) rfl)
  puts := row_turned h.puts (Turned.of_grown hg) (fun g hg' e => by
    injection e with e
    subst e
    obtain ⟨_, cur, h4⟩ := row_block h.puts hg'
    exact ne_type hb h4 (by decide) rfl)
structure ThRel (w : World) (T M B D bx b6 : Nat) (wv : Value) (ws : List Nat) (l : List (Nat × Nat)) (wr : World) : Prop where
  tx : ∃ R, Txs w wr T M R B D ws l ∧ ∀ g, wv.ownBlock = some g → R ≠ some g
  box : ∃ pv, wr.heap[bx]? = some (.cells #[wv, pv] 28 (0, 0)) ∧ RTx wr w.heap.size wv pv ws l
  res : wr.heap[b6]? = some (.cells #[.slice none 0 0, .slice none 0 0] 28 (0, 0))
theorem ThRel.later {w w' wr : World} {T M B D bx b6 : Nat} {wv : Value} {ws : List Nat} {l : List (Nat × Nat)} (h : ThRel w T M B D bx b6 wv ws l wr) (hg : wr.grownBy w' none) : ThRel w T M B D bx b6 wv ws l w' := by
  obtain ⟨R, h1, h2⟩ := h.tx
  obtain ⟨pv, h3, h4⟩ := h.box
  exact ⟨⟨R, h1.later hg, h2⟩, ⟨pv, (hg.block _ (lt_of_block h3) (by simp)).trans h3, h4.later hg⟩, (hg.block _ (lt_of_block h.res) (by simp)).trans h.res⟩
structure ThMid (w : World) (T M B D bx b6 : Nat) (wv : Value) (ws : List Nat) (l l' : List (Nat × Nat)) (wr : World) : Prop where
  tx : ∃ R, Txs w wr T M R B D ws l' ∧ ∀ g, wv.ownBlock = some g → R ≠ some g
  box : ∃ pv, wr.heap[bx]? = some (.cells #[wv, pv] 28 (0, 0)) ∧ RTx wr w.heap.size wv pv ws l
  res : wr.heap[b6]? = some (.cells #[.slice none 0 0, .slice none 0 0] 28 (0, 0))
theorem ThMid.later {w w' wr : World} {T M B D bx b6 : Nat} {wv : Value} {ws : List Nat} {l l' : List (Nat × Nat)} (h : ThMid w T M B D bx b6 wv ws l l' wr) (hg : wr.grownBy w' none) : ThMid w T M B D bx b6 wv ws l l' w' := by
  obtain ⟨R, h1, h2⟩ := h.tx
  obtain ⟨pv, h3, h4⟩ := h.box
  exact ⟨⟨R, h1.later hg, h2⟩, ⟨pv, (hg.block _ (lt_of_block h3) (by simp)).trans h3, h4.later hg⟩, (hg.block _ (lt_of_block h.res) (by simp)).trans h.res⟩
theorem ThRel.store {w wr : World} {T M B D bx b6 : Nat} {wv : Value} {ws : List Nat} {l : List (Nat × Nat)} (h : ThRel w T M B D bx b6 wv ws l wr) (off v : Nat) (ho : off < 18446744073709551616) (hv : v < 18446744073709551616) :
    Calls Try.prog 36 #[.pointer (some ⟨T, 0, none⟩), .int .u64 off, .int .u64 v] wr fun e w' => e = .returned (.tuple #[]) ∧ ThMid w T M B D bx b6 wv ws l (txStore ws l off v) w' := by
  obtain ⟨R, h1, h2⟩ := h.tx
  refine (txstore_any h1.tx off v ho hv).mono ?_
  rintro e w' ⟨rfl, ht⟩
  obtain ⟨R', k1, k2, k3⟩ := h1.step ht
  obtain ⟨pv, h3, h4⟩ := h.box
  refine ⟨rfl, ⟨R', k1, fun g hg => ?_⟩, ⟨pv, k2.heap h3 (h1.tx.far h3 (by decide) (by decide)), ⟨OwnW.past h1.tx k2 h4.words h2, OwnP.past h1.tx k2 h4.puts⟩⟩, k2.heap h.res (h1.tx.far h.res (by decide) (by decide))⟩
  rcases k3 with rfl | ⟨g', rfl, hg'⟩
  · exact h2 g hg
  · intro e
    injection e with e
    obtain ⟨_, cur, hb⟩ := row_block h4.words hg
    have := lt_of_block hb
    omega
theorem ThMid.stored {w wr w4 : World} {T M B D bx b6 : Nat} {wv pv' : Value} {ws : List Nat} {l l' : List (Nat × Nat)} (h : ThMid w T M B D bx b6 wv ws l l' wr) (hg : wr.grownBy w4 none) (hr : RTx w4 w.heap.size wv pv' ws l') (hbx : w.heap.size ≤ bx) (hne : bx ≠ b6) :
    ThRel w T M B D bx b6 wv ws l' ((w4.setCell ⟨bx, 0, none⟩ wv).setCell ⟨bx, 1, none⟩ pv') := by
  obtain ⟨R, h1, h2⟩ := h.tx
  obtain ⟨pv, h3, _⟩ := h.box
  have h3' := (hg.block _ (lt_of_block h3) (by simp)).trans h3
  have hs : w4.grownBy ((w4.setCell ⟨bx, 0, none⟩ wv).setCell ⟨bx, 1, none⟩ pv') (some bx) := grown_trans (grown_set _ _ _ _) (grown_set _ _ _ _)
  refine ⟨⟨R, (h1.later hg).other h3' hbx hs, h2⟩, ⟨pv', ?_, hr.other h3' hs⟩, ?_⟩
  · rw [heap_setCell_same (heap_setCell_same h3' wv) pv']; rfl
  · have := (hg.block _ (lt_of_block h.res) (by simp)).trans h.res
    exact (hs.block _ (lt_of_block this) (by simpa using hne.symm)).trans this
theorem wv_form {w : World} {base : Nat} {v : Value} {ws : List Nat} (h : OwnW w base v ws) : ∃ a n c, v = .slice a n c := by
  obtain ⟨a, c, h⟩ := h.slice
  exact ⟨a, _, c, h⟩
theorem pv_form {w : World} {base : Nat} {v : Value} {l : List (Nat × Nat)} (h : OwnP w base v l) : ∃ a n c, v = .slice a n c := by
  obtain ⟨a, c, g, h, _⟩ := h.addr
  exact ⟨a, _, c, h⟩
end Go.Proofs.Ytkkkgikmeiocaaa
namespace Go.Proofs.Ytkkkgikmeiocaaa
open Go.RowKit
section
variable {w wr w' : World} {T M B D bx : Nat} {wv : Value} {ws : List Nat} {l l' l2 : List (Nat × Nat)}
end
def KW (w : World) (R : Option Nat) (base : Nat) (v : Value) (xs : List Nat) : Prop := OwnW w base v xs ∧ ∀ g, v.ownBlock = some g → R ≠ some g
structure Keep (w : World) (R : Option Nat) (w' : World) (R' : Option Nat) : Prop where
  size : w.heap.size ≤ w'.heap.size
  row : ∀ {base : Nat} {v : Value} {xs : List Nat}, KW w R base v xs → KW w' R' base v xs
  puts : ∀ {base : Nat} {v : Value} {xs : List (Nat × Nat)}, OwnP w base v xs → OwnP w' base v xs
  far : ∀ {b : Nat} {c : Array Value} {t : TypeId}, w.heap[b]? = some (.cells c t (0, 0)) → t ≠ 101 → t ≠ 31 → w'.heap[b]? = some (.cells c t (0, 0))
section
variable {w0 w w' w2 : World} {T : Nat} {R R' R2 : Option Nat} {ws : List Nat} {base : Nat} {v : Value} {xs : List Nat}
theorem KW.later (h : KW w R base v xs) (hg : w.grownBy w' none) : KW w' R base v xs := ⟨h.1.later hg, h.2⟩
theorem KW.mono {b : Nat} (h : KW w R base v xs) (hb : b ≤ base) : KW w R b v xs := ⟨h.1.mono hb, h.2⟩
theorem Keep.of_grown (hg : w.grownBy w' none) : Keep w R w' R := ⟨hg.size, fun h => h.later hg, fun h => own_kept h hg, fun h _ _ => (hg.block _ (lt_of_block h) (by simp)).trans h⟩
theorem Keep.trans (h : Keep w R w' R') (k : Keep w' R' w2 R2) : Keep w R w2 R2 := ⟨Nat.le_trans h.size k.size, fun a => k.row (h.row a), fun a => k.puts (h.puts a), fun a b c => k.far (h.far a b c) b c⟩
theorem step_keep {M B D : Nat} {l l' : List (Nat × Nat)} (h : Txs w0 w T M R B D ws l) (ht : Thought w T M R B D ws l' w') : ∃ R', Txs w0 w' T M R' B D ws l' ∧ Keep w R w' R' := by
  obtain ⟨R', h1, h2, h3⟩ := h.step ht
  refine ⟨R', h1, ⟨h2.size, fun {base v xs} a => ⟨a.1.past h.tx h2 a.2, fun g hg e => ?_⟩, fun a => a.past h.tx h2, fun a b c => h2.heap a (h.tx.far a b c)⟩⟩
  have hlt := (World.ownsRow.lt a.1 g hg).2
  rcases h3 with rfl | ⟨g', e', hg'⟩
  · exact a.2 g hg e
  · rw [e'] at e
    injection e with e
    omega
end
end Go.Proofs.Ytkkkgikmeiocaaa
namespace Go.Proofs.Ytkkkgikmeiocaaa
open Go.RowKit
theorem stands_put' (ws : List Nat) (x y off : Nat) : stands (put ws x y) off ↔ stands ws off := by unfold stands; rw [put_len]
theorem getW_put' {ws : List Nat} {x : Nat} (y off : Nat) (h : stands ws x) : getW (put ws x y) off = if off = x then y else getW ws off := by
  by_cases ho : stands ws off
  · have h1 := (stands_put' ws x y off).2 ho
    unfold getW
    rw [if_pos h1, if_pos ho]
    unfold put
    rw [if_pos h]
    have hx := h.1
    have hx2 := h.2
    have ho1 := ho.1
    by_cases e : off = x
    · subst e
      rw [if_pos rfl, List.getD_eq_getElem?_getD, List.getElem?_set_self (by omega)]
      rfl
    · rw [if_neg e, List.getD_eq_getElem?_getD, List.getElem?_set_ne (by omega), List.getD_eq_getElem?_getD]
  · have e : off ≠ x := fun e => ho (e ▸ h)
    unfold getW
    rw [if_neg (fun h' => ho ((stands_put' ws x y off).1 h')), if_neg ho, if_neg e]
end Go.Proofs.Ytkkkgikmeiocaaa
