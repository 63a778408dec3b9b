/-
  The plain answer of layer 8: Word, Get, Set and Do.
  Conditions: the words, and the pairs, are rows of the call's own, or nil; the numbers are of 64 bits.
-/
import Derived.Test.YtoamlkljfmgomaaGreatCliA
import Derived.Test.YtoamlkljfmgomaaGreatLTx
namespace Go.Proofs.YtoamlkljfmgomaaGreat
open Go.RowKit
set_option linter.unusedVariables false
set_option linter.unusedSimpArgs false
set_option maxRecDepth 100000

/-- the box of a value, and that of a result -/
theorem txs_first {w w' : World} {x y x' y' : Value} {t t2 : TypeId} (hg : ((w.alloc (.cells #[x, y] t)).alloc (.cells #[x', y'] t2)).grownBy w' none) :
    w'.heap[w.heap.size]? = some (.cells #[x, y] t (0, 0)) ∧ w'.heap[w.heap.size + 1]? = some (.cells #[x', y'] t2 (0, 0)) := by
  have h1 : (w.alloc (.cells #[x, y] t)).heap[w.heap.size]? = some (.cells #[x, y] t (0, 0)) := heap_alloc_new' _ _
  have h2 := ((World.grownBy_alloc (w.alloc (.cells #[x, y] t)) (.cells #[x', y'] t2) none).block _ (lt_of_block h1) (by simp)).trans h1
  have h3 := heap_alloc_new' (w.alloc (.cells #[x, y] t)) (.cells #[x', y'] t2)
  rw [World.size_alloc] at h3
  exact ⟨(hg.block _ (lt_of_block h2) (by simp)).trans h2, (hg.block _ (lt_of_block h3) (by simp)).trans h3⟩
theorem tx_cells {w : World} {b : Nat} {x y : Value} {t : TypeId} (h : w.heap[b]? = some (.cells #[x, y] t (0, 0))) : w.cell? ⟨b, 0, none⟩ = some x ∧ w.cell? ⟨b, 1, none⟩ = some y ∧ w.frozen? ⟨b, 0, none⟩ = false ∧ w.frozen? ⟨b, 1, none⟩ = false :=
  ⟨by simp [World.cell?, h], by simp [World.cell?, h], by simp [World.frozen?, h], by simp [World.frozen?, h]⟩
theorem tx_one {w w' : World} {x y : Value} {t : TypeId} (hg : (w.alloc (.cells #[x, y] t)).grownBy w' none) : w'.heap[w.heap.size]? = some (.cells #[x, y] t (0, 0)) := by
  have h1 : (w.alloc (.cells #[x, y] t)).heap[w.heap.size]? = some (.cells #[x, y] t (0, 0)) := heap_alloc_new' _ _
  exact (hg.block _ (lt_of_block h1) (by simp)).trans h1
/-- a value goes into a result's box -/
theorem res_put {w w3 : World} {base b : Nat} {c : Array Value} {wv pv u v : Value} {ws : List Nat} {l : List (Nat × Nat)} (hg : w.grownBy w3 none) (hb : w.heap.size ≤ b) (hc : w3.heap[b]? = some (.cells c 54 (0, 0))) (h : RTx w3 base wv pv ws l) :
    RTx ((w3.setCell ⟨b, 0, none⟩ u).setCell ⟨b, 1, none⟩ v) base wv pv ws l ∧ w.grownBy ((w3.setCell ⟨b, 0, none⟩ u).setCell ⟨b, 1, none⟩ v) none := by
  have hs : w3.grownBy ((w3.setCell ⟨b, 0, none⟩ u).setCell ⟨b, 1, none⟩ v) (some b) := grown_trans (grown_set _ _ _ _) (grown_set _ _ _ _)
  exact ⟨h.other hc hs, grown_step hg hs (fun i hi => .inl (by injection hi with hi; omega))⟩
section
variable {w : World} {base : Nat} {wv pv : Value} {ws : List Nat} {l : List (Nat × Nat)}
/-- what is thought of behind a deed, and what is told -/
def didL (ws : List Nat) (l : List (Nat × Nat)) (d c : Int) : List (Nat × Nat) := if d = 1 then attL ws l c else if d = 2 then detL ws l c else if d = 3 then cSet ws l c 0 2 else cSet ws l c 0 0
def didE (ws : List Nat) (l : List (Nat × Nat)) (d c : Int) : Nat := if d = 1 then attE ws l c else if d = 2 then detE ws l c else becE c
def RDone (w : World) (base : Nat) (wv : Value) (ws : List Nat) (l : List (Nat × Nat)) (n : Nat) (e : Ending) (w' : World) : Prop := ∃ pv, e = .returned (.tuple #[.agg #[wv, pv], .int .i64 (n : Nat)]) ∧ RTx w' base wv pv ws l ∧ w.grownBy w' none
theorem did_not {c : Int} (h : ¬ thereP c) (ws : List Nat) (l : List (Nat × Nat)) (d : Int) : didL ws l d c = l ∧ didE ws l d c = 1 := by
  have h1 : ∀ q v, cSet ws l c q v = l := fun q v => if_neg (fun hs => h hs.1)
  have h2 : attL ws l c = l := if_neg (fun hs => h hs.1)
  have h3 : detL ws l c = l := if_neg (fun hs => h hs.1)
  have h4 : attE ws l c = 1 := if_neg h
  have h5 : detE ws l c = 1 := if_neg h
  have h6 : becE c = 1 := if_neg h
  unfold didL didE
  rw [h1, h1, h2, h3, h4, h5, h6]
  exact ⟨by simp, by simp⟩
end
end Go.Proofs.YtoamlkljfmgomaaGreat
