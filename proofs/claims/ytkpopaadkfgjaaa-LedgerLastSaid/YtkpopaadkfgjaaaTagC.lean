/-
  Package tag: the contracts of inside, Read and Write.
  Conditions: the Tx is nobody's, or stands in memory; the numbers are of 64 bits.
-/
import Derived.Test.YtkpopaadkfgjaaaTagB
import Derived.Test.YtkpopaadkfgjaaaLTx
namespace Go.Proofs.Ytkpopaadkfgjaaa
open Go.RowKit
set_option linter.unusedVariables false
set_option linter.unusedSimpArgs false

/-- may a block of so many bytes stand at off in a heap that ends there? -/
def inP (z off s : Nat) : Prop := off % 16 = 0 ∧ 3776 ≤ off ∧ off < z ∧ s ≤ z - off
instance (z off s : Nat) : Decidable (inP z off s) := by unfold inP; infer_instance
/-- does a block's tag stand at off, where these words stand? -/
def rdP (f : Nat → Nat) (off : Nat) : Prop := mayW (f off) ∧ inP (f 16) off (usz (f off)) ∧ f (off + usz (f off) - 8) = f off
instance (f : Nat → Nat) (off : Nat) : Decidable (rdP f off) := by unfold rdP; infer_instance
def rdS (f : Nat → Nat) (off : Nat) : Nat := if rdP f off then usz (f off) else 0
def rdU (f : Nat → Nat) (off : Nat) : Bool := if rdP f off then uus (f off) else false
def rdO (f : Nat → Nat) (off : Nat) : Nat := if rdP f off then uow (f off) else 0
def rdE (f : Nat → Nat) (off : Nat) : Nat := if rdP f off then 0 else 12
theorem rd_yes {f : Nat → Nat} {off : Nat} (h : rdP f off) : rdS f off = usz (f off) ∧ rdU f off = uus (f off) ∧ rdO f off = uow (f off) ∧ rdE f off = 0 := ⟨if_pos h, if_pos h, if_pos h, if_pos h⟩
theorem rd_no {f : Nat → Nat} {off : Nat} (h : ¬ rdP f off) : rdS f off = 0 ∧ rdU f off = false ∧ rdO f off = 0 ∧ rdE f off = 12 := ⟨if_neg h, if_neg h, if_neg h, if_neg h⟩
theorem t_yes {w : Nat} (h : mayW w) : tS w = usz w ∧ tU w = uus w ∧ tO w = uow w := ⟨if_pos h, if_pos h, if_pos h⟩
theorem t_no {w : Nat} (h : ¬ mayW w) : tS w = 0 ∧ tU w = false ∧ tO w = 0 := ⟨if_neg h, if_neg h, if_neg h⟩
theorem mayW_size {w : Nat} (h : mayW w) : 48 ≤ usz w ∧ usz w ≤ 1048576 ∧ usz w % 16 = 0 ∧ uow w ≤ 8 := by
  unfold mayW mayP at h
  omega
/-- two words that are one tag's are one -/
theorem tag_one {w x : Nat} (h : mayW w) : (tS x = usz w ∧ tU x = uus w ∧ tO x = uow w) ↔ x = w := by
  constructor
  · rintro ⟨h1, h2, h3⟩
    by_cases hx : mayW x
    · obtain ⟨e1, e2, e3⟩ := t_yes hx
      rw [e1] at h1
      rw [e2] at h2
      rw [e3] at h3
      rw [← pack_unpack x hx, h1, h2, h3, pack_unpack w h]
    · obtain ⟨e1, _⟩ := t_no hx
      have := (mayW_size h).1
      omega
  · rintro rfl
    exact t_yes h
theorem not_mayW_0 : ¬ mayW 0 := by decide
section
variable {w : World} {T M : Nat} {R : Option Nat} {B D : Nat} {ws : List Nat} {l : List (Nat × Nat)}
end
section
variable {w : World} {T M : Nat} {R : Option Nat} {B D : Nat} {ws : List Nat} {l : List (Nat × Nat)}
end
/-! ### Read -/
section
variable {w : World} {T M : Nat} {R : Option Nat} {B D : Nat} {ws : List Nat} {l : List (Nat × Nat)}
/-- a block of three cells that a function has made first, whatever is made behind it -/
theorem tag_first {w w' : World} {x y z : Value} {t : TypeId} (hg : (w.alloc (.cells #[x, y, z] t)).grownBy w' none) : w'.heap[w.heap.size]? = some (.cells #[x, y, z] t (0, 0)) := by
  have h1 : (w.alloc (.cells #[x, y, z] t)).heap[w.heap.size]? = some (.cells #[x, y, z] t (0, 0)) := heap_alloc_new' _ _
  exact (hg.block _ (lt_of_block h1) (by simp)).trans h1
end
end Go.Proofs.Ytkpopaadkfgjaaa
