/-
  Package phys: a block where words stand, as plain mathematics; the contract of read.
  Conditions: the Tx stands in memory; the offset is a number of 64 bits.
-/
import Derived.Test.YtkpopaadkfgjaaaTagC
import Derived.Test.YtkpopaadkfgjaaaLWord
namespace Go.Proofs.Ytkpopaadkfgjaaa
open Go.RowKit
set_option linter.unusedVariables false
set_option linter.unusedSimpArgs false

/-- a block: where it stands, its tag, and how many bytes it has -/
structure Blk where
  off : Nat
  s : Nat
  u : Bool
  o : Int
  n : Nat
deriving DecidableEq
instance : Inhabited Blk := ⟨⟨0, 0, false, 0, 0⟩⟩
def Blk.row (b : Blk) : List Value := [.int .u64 (b.off : Nat), .int .u64 (b.s : Nat), .bool b.u, .int .i64 b.o, .int .u64 (b.n : Nat)]
def Blk.none : Blk := ⟨0, 0, false, 0, 0⟩
/-- does a whole block stand at off? -/
def bkP (f : Nat → Nat) (off : Nat) : Prop := rdP f off ∧ (uus (f off) = true → f (off + 8) + 40 ≤ usz (f off))
instance (f : Nat → Nat) (off : Nat) : Decidable (bkP f off) := by unfold bkP; infer_instance
def bkL (f : Nat → Nat) (off : Nat) : Nat := if uus (f off) = true then f (off + 8) else 0
def bkAt (f : Nat → Nat) (off : Nat) : Blk := ⟨off, usz (f off), uus (f off), uow (f off), bkL f off⟩
def bkR (f : Nat → Nat) (off : Nat) : Blk := if bkP f off then bkAt f off else Blk.none
def bkE (f : Nat → Nat) (off : Nat) : Nat := if bkP f off then 0 else 12
theorem bk_yes {f : Nat → Nat} {off : Nat} (h : bkP f off) : bkR f off = bkAt f off ∧ bkE f off = 0 := ⟨if_pos h, if_pos h⟩
theorem bk_no {f : Nat → Nat} {off : Nat} (h : ¬ bkP f off) : bkR f off = Blk.none ∧ bkE f off = 12 := ⟨if_neg h, if_neg h⟩
theorem need_leq {n s : Nat} (h : s % 16 = 0) (h48 : 48 ≤ s) : needOf n ≤ s ↔ n + 40 ≤ s := by
  unfold needOf
  split <;> omega
/-! a block of five cells -/
section
variable {w w' : World} {b : Nat} {x y z p q x' y' z' p' q' : Value} {t : TypeId}
theorem five_cells (h : w.heap[b]? = some (.cells #[x, y, z, p, q] t (0, 0))) : w.cell? ⟨b, 0, none⟩ = some x ∧ w.cell? ⟨b, 1, none⟩ = some y ∧ w.cell? ⟨b, 2, none⟩ = some z ∧ w.cell? ⟨b, 3, none⟩ = some p ∧ w.cell? ⟨b, 4, none⟩ = some q :=
  ⟨by simp [World.cell?, h], by simp [World.cell?, h], by simp [World.cell?, h], by simp [World.cell?, h], by simp [World.cell?, h]⟩
theorem five_frozen (h : w.heap[b]? = some (.cells #[x, y, z, p, q] t (0, 0))) : w.frozen? ⟨b, 0, none⟩ = false ∧ w.frozen? ⟨b, 1, none⟩ = false ∧ w.frozen? ⟨b, 2, none⟩ = false ∧ w.frozen? ⟨b, 3, none⟩ = false ∧ w.frozen? ⟨b, 4, none⟩ = false :=
  ⟨by simp [World.frozen?, h], by simp [World.frozen?, h], by simp [World.frozen?, h], by simp [World.frozen?, h], by simp [World.frozen?, h]⟩
theorem five_first (hg : (w.alloc (.cells #[x, y, z, p, q] t)).grownBy w' none) : w'.heap[w.heap.size]? = some (.cells #[x, y, z, p, q] t (0, 0)) := by
  have h1 : (w.alloc (.cells #[x, y, z, p, q] t)).heap[w.heap.size]? = some (.cells #[x, y, z, p, q] t (0, 0)) := heap_alloc_new' _ _
  exact (hg.block _ (lt_of_block h1) (by simp)).trans h1
theorem five_put (h : w.heap[b]? = some (.cells #[x, y, z, p, q] t (0, 0))) : (((((w.setCell ⟨b, 0, none⟩ x').setCell ⟨b, 1, none⟩ y').setCell ⟨b, 2, none⟩ z').setCell ⟨b, 3, none⟩ p').setCell ⟨b, 4, none⟩ q').heap[b]? = some (.cells #[x', y', z', p', q'] t (0, 0)) := by
  rw [heap_setCell_same (heap_setCell_same (heap_setCell_same (heap_setCell_same (heap_setCell_same h x') y') z') p') q']; rfl
theorem five_grown {w0 : World} (h : w0.grownBy w none) (hb : w0.heap.size ≤ b) : w0.grownBy (((((w.setCell ⟨b, 0, none⟩ x').setCell ⟨b, 1, none⟩ y').setCell ⟨b, 2, none⟩ z').setCell ⟨b, 3, none⟩ p').setCell ⟨b, 4, none⟩ q') none :=
  grown_new (grown_trans (grown_any h _) (grown_trans (grown_set _ _ _ _) (grown_trans (grown_set _ _ _ _) (grown_trans (grown_set _ _ _ _) (grown_trans (grown_set _ _ _ _) (grown_set _ _ _ _)))))) hb
end
section
variable {w : World} {T M : Nat} {R : Option Nat} {B D : Nat} {ws : List Nat} {l : List (Nat × Nat)}
end
end Go.Proofs.Ytkpopaadkfgjaaa
