/-
  What holds in the first loop of the plain answer Name: the bytes are taken out of the two words one by one.
  Conditions: the words are 0 to 2^64 - 1.
-/
import Derived.Test.YtebkpcbajheciaaWordJ
namespace Go.Proofs.Ytebkpcbajheciaa
open Go.RowKit
set_option linter.unusedVariables false
set_option linter.unusedSimpArgs false
/-- the first k bytes, as cells -/
def cellsTo (x0 x1 k : Nat) : List Value := (List.range k).map fun j => .int .u8 (byteAt x0 x1 j : Int)
theorem cellsTo_next (x0 x1 k : Nat) : cellsTo x0 x1 (k + 1) = cellsTo x0 x1 k ++ [.int .u8 (byteAt x0 x1 k : Int)] := by
  unfold cellsTo; rw [List.range_succ, List.map_append]; rfl
theorem cellsTo_at (x0 x1 k j : Nat) (h : j < k) : (cellsTo x0 x1 k)[j]? = some (.int .u8 (byteAt x0 x1 j : Int)) := by
  simp [cellsTo, h]
/-- What holds at the head of the first loop: k bytes are taken out of the words. -/
structure RNRel (w : World) (x0 x1 k : Nat) (v : Value) (wr : World) : Prop where
  c0 : wr.cell? ⟨w.heap.size, 0, none⟩ = some (.int .u64 (x0 / 256 ^ (min k 8) : Nat))
  c1 : wr.cell? ⟨w.heap.size, 1, none⟩ = some (.int .u64 (x1 / 256 ^ (k - 8) : Nat))
  f0 : wr.frozen? ⟨w.heap.size, 0, none⟩ = false
  f1 : wr.frozen? ⟨w.heap.size, 1, none⟩ = false
  own : wr.ownsRow (w.heap.size + 1) 5 1 v k (cellsTo x0 x1 k)
  size : w.heap.size + 1 ≤ wr.heap.size
  below : Below w.heap.size w wr
theorem RNRel.first (w : World) (x0 x1 : Nat) : RNRel w x0 x1 0 (.slice none 0 0) (w.alloc (.cells #[.int .u64 x0, .int .u64 x1] 31)) where
  c0 := by simp only [Nat.zero_min, Nat.pow_zero, Nat.div_one]; go_cell
  c1 := by simp only [Nat.zero_sub, Nat.pow_zero, Nat.div_one]; go_cell
  f0 := by simp
  f1 := by simp
  own := World.ownsRow_nil _ _ _ _
  size := by simp
  below := (Below.refl _ _).alloc (Nat.le_refl _) _
theorem div_next (x k : Nat) : x / 256 ^ (k + 1) = x / 256 ^ k / 256 := by rw [Nat.pow_succ, Nat.div_div_eq_div_mul]
/-- One more byte: behind the append, and the store of what is left. -/
theorem RNRel.next {w wr wa : World} {x0 x1 k : Nat} {v v' : Value} (R : RNRel w x0 x1 k v wr) (hown : wa.ownsRow (w.heap.size + 1) 5 1 v' (k + 1) (cellsTo x0 x1 (k + 1)))
    {O : Obj} (hg : (wr.alloc O).grownBy wa v.ownBlock) :
    (k < 8 → RNRel w x0 x1 (k + 1) v' (wa.setCell ⟨w.heap.size, 0, none⟩ (.int .u64 (x0 / 256 ^ k / 256 : Nat)))) ∧ (8 ≤ k → RNRel w x0 x1 (k + 1) v' (wa.setCell ⟨w.heap.size, 1, none⟩ (.int .u64 (x1 / 256 ^ (k - 8) / 256 : Nat)))) ∧
    wa.cell? ⟨w.heap.size, 0, none⟩ = some (.int .u64 (x0 / 256 ^ (min k 8) : Nat)) ∧ wa.cell? ⟨w.heap.size, 1, none⟩ = some (.int .u64 (x1 / 256 ^ (k - 8) : Nat)) ∧ wa.frozen? ⟨w.heap.size, 0, none⟩ = false ∧ wa.frozen? ⟨w.heap.size, 1, none⟩ = false := by
  have hne : some w.heap.size ≠ v.ownBlock := by
    intro h
    have := (R.own.lt _ h.symm).1
    omega
  have hlt : w.heap.size < wr.heap.size := R.size
  have hblk : wa.heap[w.heap.size]? = wr.heap[w.heap.size]? := (hg.block _ (by rw [World.size_alloc]; omega) hne).trans (Below.heap_alloc wr O _ hlt)
  have d0 : wa.cell? ⟨w.heap.size, 0, none⟩ = some (.int .u64 (x0 / 256 ^ (min k 8) : Nat)) := (World.cell?_of_block (w := wr) (a := ⟨w.heap.size, 0, none⟩) hblk).trans R.c0
  have d1 : wa.cell? ⟨w.heap.size, 1, none⟩ = some (.int .u64 (x1 / 256 ^ (k - 8) : Nat)) := (World.cell?_of_block (w := wr) (a := ⟨w.heap.size, 1, none⟩) hblk).trans R.c1
  have e0 : wa.frozen? ⟨w.heap.size, 0, none⟩ = false := (World.frozen?_of_block (w := wr) (a := ⟨w.heap.size, 0, none⟩) hblk).trans R.f0
  have e1 : wa.frozen? ⟨w.heap.size, 1, none⟩ = false := (World.frozen?_of_block (w := wr) (a := ⟨w.heap.size, 1, none⟩) hblk).trans R.f1
  have hsz := hg.size
  rw [World.size_alloc] at hsz
  have hb : Below w.heap.size w wa := (R.below.alloc (by omega) O).grown hg (by rw [World.size_alloc]; omega) (fun k hk => by have := (R.own.lt _ hk).1; omega)
  refine ⟨fun h => ?_, fun h => ?_, d0, d1, e0, e1⟩
  · rw [Nat.min_eq_left (by omega)] at d0
    exact {
      c0 := by rw [Nat.min_eq_left (by omega), div_next]; exact World.cell?_setCell_same _ _ _ d0
      c1 := by rw [World.cell?_setCell_other _ _ _ _ (by simp), d1, show k + 1 - 8 = k - 8 by omega]
      f0 := by rw [World.frozen?_setCell]; exact e0
      f1 := by rw [World.frozen?_setCell]; exact e1
      own := ownsRow_setCell_below hown (by simp) _
      size := by simp [World.setCell]; omega
      below := hb.setCell (by simp) _ }
  · exact {
      c0 := by rw [World.cell?_setCell_other _ _ _ _ (by simp), d0, Nat.min_eq_right h, Nat.min_eq_right (by omega)]
      c1 := by rw [show k + 1 - 8 = (k - 8) + 1 by omega, div_next]; exact World.cell?_setCell_same _ _ _ d1
      f0 := by rw [World.frozen?_setCell]; exact e0
      f1 := by rw [World.frozen?_setCell]; exact e1
      own := ownsRow_setCell_below hown (by simp) _
      size := by simp [World.setCell]; omega
      below := hb.setCell (by simp) _ }
end Go.Proofs.Ytebkpcbajheciaa
