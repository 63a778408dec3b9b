/-
  Package tag: the contracts of Unpack, and of the plain answer Unpack.
  Conditions: the word is a number of 64 bits.
-/
import Derived.Test.YtndoedcaoklfgaaTagA
namespace Go.Proofs.Ytndoedcaoklfgaa
open Go.RowKit
set_option linter.unusedVariables false
set_option linter.unusedSimpArgs false

/-- what a word might say: its size, whether it is used, its owner -/
def usz (w : Nat) : Nat := w % 4294967296 - w % 2
def uus (w : Nat) : Bool := decide (w % 2 = 1)
def uow (w : Nat) : Nat := w / 4294967296
/-- is it a tag's word? -/
def mayW (w : Nat) : Prop := mayP (usz w) (uus w) (uow w : Nat)
instance (w : Nat) : Decidable (mayW w) := by unfold mayW; infer_instance
/-- the tag whose word it is, or the zero one -/
def tS (w : Nat) : Nat := if mayW w then usz w else 0
def tU (w : Nat) : Bool := if mayW w then uus w else false
def tO (w : Nat) : Nat := if mayW w then uow w else 0
theorem usz_and (w : Nat) (hw : w < 18446744073709551616) : bits .and .u64 (w : Int) 4294967294 = (usz w : Nat) := by
  rw [show (4294967294 : Int) = ((4294967294 : Nat) : Int) from rfl, u64_and_nat w 4294967294 hw (by decide)]
  congr 1
  have e : usz w = (w % 2 ^ 32) >>> 1 <<< 1 := by
    rw [Nat.shiftRight_eq_div_pow, Nat.shiftLeft_eq]
    unfold usz
    omega
  rw [e, show 4294967294 = (2 ^ 31 - 1) <<< 1 by decide]
  apply Nat.eq_of_testBit_eq
  intro i
  rw [Nat.testBit_and, Nat.testBit_shiftLeft, Nat.testBit_shiftLeft, Nat.testBit_two_pow_sub_one, Nat.testBit_shiftRight, Nat.testBit_mod_two_pow]
  by_cases h1 : i ≥ 1
  · rw [show 1 + (i - 1) = i by omega]
    by_cases h2 : i < 32
    · simp [h1, h2, show i - 1 < 31 by omega]
    · simp [h1, h2, show ¬ i - 1 < 31 by omega]
  · simp [h1]
theorem uus_and (w : Nat) (hw : w < 18446744073709551616) : bits .and .u64 (w : Int) 1 = (w % 2 : Nat) := by
  rw [show (1 : Int) = ((1 : Nat) : Int) from rfl, u64_and_nat w 1 hw (by decide), nat_mask1]
theorem uow_lt (w : Nat) (hw : w < 18446744073709551616) : uow w < 4294967296 := by unfold uow; omega
theorem uus_cases (w : Nat) : (w % 2 = 1 ∧ uus w = true) ∨ (w % 2 = 0 ∧ uus w = false) := by
  unfold uus
  rcases Nat.mod_two_eq_zero_or_one w with h | h
  · exact .inr ⟨h, by simp [h]⟩
  · exact .inl ⟨h, by simp [h]⟩
/-- two blocks of three cells, one behind the other, and what is made behind them -/
theorem tag_two {w w' : World} {a b c x y z : Value} {t : TypeId} (hg : ((w.alloc (.cells #[a, b, c] t)).alloc (.cells #[x, y, z] t)).grownBy w' none) :
    w'.heap[w.heap.size]? = some (.cells #[a, b, c] t (0, 0)) ∧ w'.heap[w.heap.size + 1]? = some (.cells #[x, y, z] t (0, 0)) := by
  have h1 : (w.alloc (.cells #[a, b, c] t)).heap[w.heap.size]? = some (.cells #[a, b, c] t (0, 0)) := heap_alloc_new' _ _
  have h2 := ((World.grownBy_alloc (w.alloc (.cells #[a, b, c] t)) (.cells #[x, y, z] t) none).block _ (lt_of_block h1) (by simp)).trans h1
  have h3 := heap_alloc_new' (w.alloc (.cells #[a, b, c] t)) (.cells #[x, y, z] t)
  rw [World.size_alloc] at h3
  exact ⟨(hg.block _ (lt_of_block h2) (by simp)).trans h2, (hg.block _ (lt_of_block h3) (by simp)).trans h3⟩
theorem tag_frozen {w : World} {b : Nat} {x y z : Value} {t : TypeId} (h : w.heap[b]? = some (.cells #[x, y, z] t (0, 0))) : w.frozen? ⟨b, 0, none⟩ = false ∧ w.frozen? ⟨b, 1, none⟩ = false ∧ w.frozen? ⟨b, 2, none⟩ = false := by
  exact ⟨by simp [World.frozen?, h], by simp [World.frozen?, h], by simp [World.frozen?, h]⟩
/-- a block of three cells, stored into -/
theorem tag_put {w : World} {b : Nat} {x y z x' y' z' : Value} {t : TypeId} (h : w.heap[b]? = some (.cells #[x, y, z] t (0, 0))) : (((w.setCell ⟨b, 0, none⟩ x').setCell ⟨b, 1, none⟩ y').setCell ⟨b, 2, none⟩ z').heap[b]? = some (.cells #[x', y', z'] t (0, 0)) := by
  rw [heap_setCell_same (heap_setCell_same (heap_setCell_same h x') y') z']; rfl
theorem tag_grown {w0 w : World} {b : Nat} {x' y' z' : Value} (h : w0.grownBy w none) (hb : w0.heap.size ≤ b) : w0.grownBy (((w.setCell ⟨b, 0, none⟩ x').setCell ⟨b, 1, none⟩ y').setCell ⟨b, 2, none⟩ z') none :=
  grown_new (grown_trans (grown_any h _) (grown_trans (grown_set _ _ _ _) (grown_trans (grown_set _ _ _ _) (grown_set _ _ _ _)))) hb
/-! ### The plain answer -/
theorem pack_unpack (w : Nat) (h : mayW w) : packN (usz w) (uus w) (uow w : Nat) = w := by
  unfold packN
  rw [if_pos (show mayP (usz w) (uus w) (uow w : Nat) from h)]
  rcases uus_cases w with ⟨h1, h2⟩ | ⟨h1, h2⟩ <;> rw [h2] <;> simp only [Int.toNat_natCast, if_true, if_false, Bool.false_eq_true] <;> unfold usz uow <;> omega
theorem unpack_may (w : Nat) (h : mayP (usz w) (uus w) (uow w % 16 : Nat)) : packN (usz w) (uus w) (uow w % 16 : Nat) = w ↔ mayW w := by
  constructor
  · intro e
    have e2 : uow w % 16 = uow w := by
      unfold packN at e
      rw [if_pos h] at e
      rcases uus_cases w with ⟨h1, h2⟩ | ⟨h1, h2⟩ <;> rw [h2] at e <;> simp only [Int.toNat_natCast, if_true, if_false, Bool.false_eq_true] at e <;> unfold usz uow at e <;> unfold uow <;> omega
    unfold mayW
    rw [← e2]
    exact h
  · intro hm
    have e2 : uow w % 16 = uow w := by
      have := hm
      unfold mayW mayP at this
      omega
    rw [e2]
    exact pack_unpack w hm
theorem may_of_w (w : Nat) (hm : mayW w) : uow w % 16 = uow w := by
  have := hm
  unfold mayW mayP at this
  omega
end Go.Proofs.Ytndoedcaoklfgaa
