/-
  Worlds that differ in some blocks alone, and in new ones; what stays of segments, rows and maps. Plain memory, no function of the program.
  No condition.
-/
import Derived.Test.YtkpopaadkfgjaaaSegY
import Derived.Maps.OwnSet
import Derived.Maps.AppendAt
namespace Go.Proofs.Ytkpopaadkfgjaaa
open Go.RowKit
set_option linter.unusedVariables false
set_option linter.unusedSimpArgs false

/-- w' is w but for the blocks of p, and new ones. -/
structure Turned (p : Nat → Prop) (w w' : World) : Prop where
  os : w'.os = w.os
  tape : w'.tape = w.tape
  output : w'.output = w.output
  size : w.heap.size ≤ w'.heap.size
  block : ∀ k, k < w.heap.size → ¬ p k → w'.heap[k]? = w.heap[k]?
theorem Turned.refl (p : Nat → Prop) (w : World) : Turned p w w := ⟨rfl, rfl, rfl, Nat.le_refl _, fun _ _ _ => rfl⟩
theorem Turned.mono {p q : Nat → Prop} {w w' : World} (h : Turned p w w') (hq : ∀ k, k < w.heap.size → p k → q k) : Turned q w w' :=
  ⟨h.os, h.tape, h.output, h.size, fun k hk hn => h.block k hk (fun hp => hn (hq k hk hp))⟩
theorem Turned.of_grown {w w' : World} {row : Option Nat} (h : w.grownBy w' row) : Turned (fun k => row = some k) w w' :=
  ⟨h.os, h.tape, h.output, h.size, fun k hk hn => h.block k hk (fun e => hn e.symm)⟩
theorem Turned.of_none {w w' : World} (h : w.grownBy w' none) (p : Nat → Prop) : Turned p w w' :=
  ⟨h.os, h.tape, h.output, h.size, fun k hk _ => h.block k hk (by simp)⟩
/-- One step behind another: what the second one turns was the first one's to turn, or is new. -/
theorem Turned.trans {p q : Nat → Prop} {a b c : World} (h : Turned p a b) (k : Turned q b c) (hq : ∀ i, q i → p i ∨ a.heap.size ≤ i) : Turned p a c :=
  ⟨k.os.trans h.os, k.tape.trans h.tape, k.output.trans h.output, Nat.le_trans h.size k.size, fun i hi hn =>
    (k.block i (Nat.lt_of_lt_of_le hi h.size) (fun hk => by
      rcases hq i hk with h' | h'
      · exact hn h'
      · omega)).trans (h.block i hi hn)⟩
theorem Turned.later {p : Nat → Prop} {a b c : World} (h : Turned p a b) (k : b.grownBy c none) : Turned p a c := h.trans (Turned.of_none k (fun _ => False)) (fun _ hf => hf.elim)
theorem Turned.first {p : Nat → Prop} {a b c : World} (h : a.grownBy b none) (k : Turned p b c) : Turned p a c := (Turned.of_none h p).trans k (fun _ hp => .inl hp)
/-- What was turned is new: nothing that was there has turned. -/
theorem Turned.grown {p : Nat → Prop} {a b : World} (h : Turned p a b) (hp : ∀ i, p i → a.heap.size ≤ i) : a.grownBy b none :=
  ⟨h.os, h.tape, h.output, h.size, fun i hi _ => h.block i hi (fun hk => by have := hp i hk; omega)⟩
theorem Turned.heap {p : Nat → Prop} {w w' : World} (h : Turned p w w') {b : Nat} {o : Obj} (hb : w.heap[b]? = some o) (hn : ¬ p b) : w'.heap[b]? = some o := (h.block b (lt_of_block hb) hn).trans hb
theorem Turned.row {w w' : World} {k : Nat} (h : Turned (fun i => i = k) w w') : w.grownBy w' (some k) :=
  ⟨h.os, h.tape, h.output, h.size, fun i hi hn => h.block i hi (fun e => hn (congrArg some e))⟩

section
variable {p : Nat → Prop} {w w' : World}
theorem IsSeg.turned {B D : Nat} {ws : List Nat} (h : IsSeg w B D ws) (ht : Turned p w w') (hB : ¬ p B) (hD : ¬ p D) : IsSeg w' B D ws where
  head := ht.heap h.head hB
  data := ht.heap h.data hD
  ne := h.ne
  words := h.words
  some1 := h.some1
  most := h.most
theorem row_turned {base : Nat} {e : TypeId} {size : Nat} {v : Value} {n : Nat} {xs : List Value} (h : w.ownsRow base e size v n xs) (ht : Turned p w w') (hne : ∀ g, v.ownBlock = some g → ¬ p g) : w'.ownsRow base e size v n xs := by
  refine ⟨h.1, ?_⟩
  rcases h.2 with hn | ⟨g, cap, cur, rfl, hb, hgg, rest⟩
  · exact .inl hn
  · exact .inr ⟨g, cap, cur, rfl, hb, ht.heap hgg (hne g rfl), rest⟩
theorem map_turned {H : Type} {P : Program} {k : TypeId} {R : Value → Option (DataW H × List MemPlace)} {b n : Nat} {D : DataW H} (h : w.ownsMap P k R b n D) (ht : Turned p w w') (hb : ¬ p b) : w'.ownsMap P k R b n D := by
  obtain ⟨es, clock, h1, rest⟩ := h
  exact ⟨es, clock, ht.heap h1 hb, rest⟩
end
/-- A row's block holds cells of the row's own type. -/
theorem row_block {w : World} {base : Nat} {e : TypeId} {size : Nat} {v : Value} {n : Nat} {xs : List Value} (h : w.ownsRow base e size v n xs) {g : Nat} (hg : v.ownBlock = some g) : base ≤ g ∧ ∃ cur, w.heap[g]? = some (.cells cur e (0, 0)) := by
  rcases h.2 with ⟨rfl, _⟩ | ⟨g', cap, cur, rfl, hb, hgg, _⟩
  · cases hg
  · injection hg with hg
    subst hg
    exact ⟨hb, cur, hgg⟩
theorem map_block {H : Type} {w : World} {P : Program} {k : TypeId} {R : Value → Option (DataW H × List MemPlace)} {b n : Nat} {D : DataW H} (h : w.ownsMap P k R b n D) : ∃ es clock, w.heap[b]? = some (.map es clock) := by
  obtain ⟨es, clock, h1, _⟩ := h
  exact ⟨es, clock, h1⟩
/-- A map's bound is how many entries it has. -/
theorem map_tight {H : Type} {w : World} {P : Program} {k : TypeId} {R : Value → Option (DataW H × List MemPlace)} {b n : Nat} {D : DataW H} (h : w.ownsMap P k R b n D) : w.ownsMap P k R b (Maps.size D) D := by
  obtain ⟨es, clock, h1, F, _, rfl⟩ := h
  exact ⟨es, clock, h1, F, by simp [Maps.size, length_sorted], rfl⟩
/-- Cells of unlike types are not one block. -/
theorem ne_type {w : World} {a b : Nat} {c c' : Array Value} {t t' : TypeId} {f f' : Nat × Nat} (h : w.heap[a]? = some (.cells c t f)) (h' : w.heap[b]? = some (.cells c' t' f')) (hne : t ≠ t') : a ≠ b := by
  intro e
  subst e
  rw [h] at h'
  injection h' with h'
  injection h' with _ h2 _
  exact hne h2
theorem ne_map {w : World} {a b : Nat} {c : Array Value} {t : TypeId} {f : Nat × Nat} {es : Array MapEntry} {clock : Nat} (h : w.heap[a]? = some (.cells c t f)) (h' : w.heap[b]? = some (.map es clock)) : a ≠ b := by
  intro e
  subst e
  rw [h] at h'
  cases h'
end Go.Proofs.Ytkpopaadkfgjaaa
