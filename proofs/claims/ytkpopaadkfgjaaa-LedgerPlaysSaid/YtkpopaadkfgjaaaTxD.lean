/-
  Package tx: what 'words' hands back, as an iterator: it tells each word that is thought of, in turn, whatever the loop's body does that keeps the Tx.
  Conditions: the Tx is nil, or stands in memory.
-/
import Derived.Test.YtkpopaadkfgjaaaTxC
import Derived.RangeFuncNested
import Derived.RangeFuncBound
import Derived.RangeFuncCalls
import Derived.RangeFuncLeaves
import Derived.Shelf.Abstract
import Derived.Shelf.RegionOpen
import Derived.OwnWalkIn
import Derived.TacticsInMore
import Derived.LoopNIn
import Derived.LoopIn
import Derived.Maps.OwnIn
namespace Go.Proofs.Ytkpopaadkfgjaaa
open Go.RowKit Go.Shelf
set_option linter.unusedVariables false
set_option linter.unusedSimpArgs false
attribute [local go_sem] Oper.semAt_some

/-- the k-th pair's offset, and its word -/
def txX (l : List (Nat × Nat)) (k : Nat) : Nat := (l.getD k (0, 0)).1
def txV (l : List (Nat × Nat)) (k : Nat) : Nat := (l.getD k (0, 0)).2
theorem txX_keys (l : List (Nat × Nat)) (k : Nat) : (txKeys l).getD k 0 = txX l k := by
  unfold txKeys txX
  rw [List.getD_eq_getElem?_getD, List.getD_eq_getElem?_getD, List.getElem?_map]
  cases l[k]? <;> rfl
theorem getD_mem {α : Type} {l : List α} {k : Nat} (d : α) (h : k < l.length) : l.getD k d ∈ l := by
  rw [List.getD_eq_getElem?_getD, List.getElem?_eq_getElem h]
  exact List.getElem_mem h
theorem TxOk.getD {ws : List Nat} {l : List (Nat × Nat)} (h : TxOk ws l) {k : Nat} (hk : k < l.length) : txGet l (txX l k) = some (txV l k) :=
  txGet_of_mem h.once (getD_mem (0, 0) hk)
theorem TxOk.lt {ws : List Nat} {l : List (Nat × Nat)} (h : TxOk ws l) (hm : ws.length ≤ 131072) (k : Nat) : txX l k < 18446744073709551616 ∧ txV l k < 18446744073709551616 := by
  unfold txX txV
  rcases Nat.lt_or_ge k l.length with hk | hk
  · have := getD_mem (0, 0) hk
    exact ⟨by have := h.off_lt hm _ this; omega, h.word _ this⟩
  · rw [List.getD_eq_getElem?_getD, List.getElem?_eq_none hk]
    exact ⟨by decide, by decide⟩

/-- What a body that goes on keeps: the Tx's own blocks, and the variable's box. -/
def TxKeep (T M : Nat) (R : Option Nat) (bx : Nat) (A C : World) : Prop := A.heap.size ≤ C.heap.size ∧ ∀ k, foot T M R k ∨ k = bx → C.heap[k]? = A.heap[k]?
theorem TxKeep.refl (T M : Nat) (R : Option Nat) (bx : Nat) (A : World) : TxKeep T M R bx A A := ⟨Nat.le_refl _, fun _ _ => rfl⟩
theorem TxKeep.trans {T M : Nat} {R : Option Nat} {bx : Nat} {A C E : World} (h : TxKeep T M R bx A C) (k : TxKeep T M R bx C E) : TxKeep T M R bx A E := ⟨Nat.le_trans h.1 k.1, fun i hi => (k.2 i hi).trans (h.2 i hi)⟩
theorem TxKeep.put {T M : Nat} {R : Option Nat} {bx : Nat} {w : World} (hf : ∀ k, foot T M R k → k < w.heap.size) (hb : bx < w.heap.size) (W : World) (l : Nat) (o o' : Obj) (hl : w.heap.size ≤ l) (h : W.heap[l]? = some o) (_ : o.isCells = false) (_ : o.isWalk = false) : TxKeep T M R bx W (W.putObj l o') :=
  ⟨by simp, fun k hk => World.putObj_heap_other (by
    rcases hk with hk | rfl
    · have := hf k hk; omega
    · omega)⟩
theorem TxKeep.grown {T M : Nat} {R : Option Nat} {bx : Nat} {A C : World} {row : Option Nat} (hg : A.grownBy C row) (hf : ∀ k, foot T M R k → k < A.heap.size) (hb : bx < A.heap.size) (hr : ∀ g, row = some g → ¬ foot T M R g ∧ g ≠ bx) : TxKeep T M R bx A C :=
  ⟨hg.size, fun k hk => hg.block k (by
    rcases hk with hk | rfl
    · exact hf k hk
    · exact hb) (fun e => by
      obtain ⟨h1, h2⟩ := hr k e.symm
      rcases hk with hk | hk
      · exact h1 hk
      · exact h2 hk)⟩
/-- A Tx's own memory. -/
structure TxMem (w : World) (T M : Nat) (R : Option Nat) (B : Nat) (tv : Value) (l : List (Nat × Nat)) : Prop where
  head : w.heap[T]? = some (.cells #[.pointer (some ⟨B, 0, none⟩), .map (some M), tv] 89 (0, 0))
  row : OwnW w 0 tv (txKeys l)
  own : tv.ownBlock = R
  map : MapAt w M l
theorem Thinks.mem {w : World} {T M : Nat} {R : Option Nat} {B D : Nat} {ws : List Nat} {l : List (Nat × Nat)} (h : Thinks w T M R B D ws l) : ∃ tv, TxMem w T M R B tv l := by
  obtain ⟨tv, h1, h2, h3⟩ := h.head
  exact ⟨tv, h1, h2, h3, h.map⟩
theorem TxMem.keep {A C : World} {T M : Nat} {R : Option Nat} {B bx : Nat} {tv : Value} {l : List (Nat × Nat)} (h : TxMem A T M R B tv l) (hk : TxKeep T M R bx A C) : TxMem C T M R B tv l where
  head := (hk.2 T (.inl (.inl rfl))).trans h.head
  row := by
    have h1 := h.row
    have h2 := h.own
    unfold OwnW at h1 ⊢
    refine ⟨h1.1, ?_⟩
    rcases h1.2 with hn | ⟨g, cap, cur, rfl, hb, hgg, rest⟩
    · exact .inl hn
    · exact .inr ⟨g, cap, cur, rfl, hb, (hk.2 g (.inl (.inr (.inr h2.symm)))).trans hgg, rest⟩
  own := h.own
  map := by
    obtain ⟨Da, ⟨es, clock, h1, rest⟩, h2⟩ := h.map
    exact ⟨Da, ⟨es, clock, (hk.2 M (.inl (.inr (.inl rfl)))).trans h1, rest⟩, h2⟩

end Go.Proofs.Ytkpopaadkfgjaaa
