/-
  What all statements of layer 3 ask first (awake) is true; what stands behind 'filled'; all words of a segment.
  Conditions: the pairs lie in memory.
-/
import Derived.Test.YtkpopaadkfgjaaaTxT
import Derived.Test.YtkpopaadkfgjaaaSegI
import Derived.Test.YtkpopaadkfgjaaaSegW
namespace Go.Proofs.Ytkpopaadkfgjaaa
open Go.RowKit
set_option linter.unusedVariables false
set_option linter.unusedSimpArgs false

/-- What filled has made: a segment of the call's own, and the plain answer's words. -/
def Filled3 (w : World) (ws : List Nat) (e : Ending) (w' : World) : Prop :=
  ∃ B D wv, e = .returned (.tuple #[.pointer (some ⟨B, 0, none⟩), wv]) ∧ FillRel w (.pointer (some ⟨B, 0, none⟩)) wv ws w' ∧ IsSeg w' B D ws ∧ w.heap.size ≤ B ∧ w.heap.size ≤ D
theorem new80 (w : World) : Calls Try.prog 22 #[.int .u64 80] w fun e w' => e = .returned (.pointer (some ⟨w.heap.size + 1, 0, none⟩)) ∧ w.grownBy w' none ∧ IsSeg w' (w.heap.size + 1) w.heap.size (List.replicate 10 0) := new_yes 10 (by decide) (by decide) w
theorem rnew80 (w : World) : Calls Try.prog 44 #[.int .u64 80] w fun e w' => e = .returned (.slice (some ⟨w.heap.size, 0, none⟩) 10 10) ∧ w.grownBy w' none ∧ OwnW w' w.heap.size (.slice (some ⟨w.heap.size, 0, none⟩) 10 10) (List.replicate 10 0) := rnew_yes 10 (by decide) (by decide) w
/-- the words behind filled -/
def ten (X V : Nat → Nat) (k : Nat) : List Nat := fillW (List.replicate 10 0) X V k
theorem ten_len (X V : Nat → Nat) (k : Nat) : (ten X V k).length = 10 := by unfold ten; rw [fillW_len]; rfl
theorem ten_lt {X V : Nat → Nat} (hV : ∀ i, V i < 18446744073709551616) (k : Nat) : ∀ x ∈ ten X V k, x < 18446744073709551616 := fillW_lt (by intro x hx; rw [List.eq_of_mem_replicate hx]; decide) hV k
end Go.Proofs.Ytkpopaadkfgjaaa
