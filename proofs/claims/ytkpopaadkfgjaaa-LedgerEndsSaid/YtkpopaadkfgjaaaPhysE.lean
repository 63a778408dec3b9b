/-
  Package phys: the contracts of beside, Before, After, Find and Merged.
  Conditions: the blocks lie in memory; there are 1000000 at most; the Tx stands in memory.
-/
import Derived.Test.YtkpopaadkfgjaaaPhysD
namespace Go.Proofs.Ytkpopaadkfgjaaa
open Go.RowKit
set_option linter.unusedVariables false
set_option linter.unusedSimpArgs false

/-- a block as a value -/
def Blk.val (b : Blk) : Value := .agg #[.int .u64 (b.off : Nat), .int .u64 (b.s : Nat), .bool b.u, .int .i64 b.o, .int .u64 (b.n : Nat)]
def zeroB : Value := .agg #[.int .u64 0, .int .u64 0, .bool false, .int .i64 0, .int .u64 0]
section
variable {w : World} {T M : Nat} {R : Option Nat} {B D : Nat} {ws : List Nat} {l : List (Nat × Nat)}
/-- how many blocks there are, and whether they end at the heap's end; none, where the head isn't checked -/
structure Heap (ws : List Nat) (l : List (Nat × Nat)) (bl : List Blk) (err : Nat) : Prop where
  is : (chkN ws l = 12 ∧ bl = [] ∧ err = 12) ∨ (chkN ws l = 0 ∧ ∃ N ok, Walks (txSee ws l) N ok ∧ bl = wkL (txSee ws l) N ok ∧ err = wkE ok)
  len : bl.length ≤ 1000000
theorem chk_or (ws : List Nat) (l : List (Nat × Nat)) : chkN ws l = 0 ∨ chkN ws l = 12 := by
  unfold chkN
  split
  · exact .inl rfl
  · exact .inr rfl
theorem heap_some (ws : List Nat) (l : List (Nat × Nat)) (hm : ws.length ≤ 131072) : ∃ bl err, Heap ws l bl err := by
  rcases chk_or ws l with hc | hc
  · obtain ⟨N, ok, hw⟩ := walks_some (txSee ws l)
    refine ⟨_, _, .inr ⟨hc, N, ok, hw, rfl, rfl⟩, ?_⟩
    have h1 := hw.len
    have h2 : chkP ws l := by
      unfold chkN at hc
      split at hc
      · assumption
      · cases hc
    have h3 := h2.1.2.2
    unfold wkL
    split
    · rw [blks_len]; omega
    · exact Nat.zero_le _
  · exact ⟨[], 12, .inl ⟨hc, rfl, rfl⟩, Nat.zero_le _⟩
theorem walks_small {ws : List Nat} {l : List (Nat × Nat)} (hm : ws.length ≤ 131072) (hc : chkN ws l = 0) {N : Nat} {ok : Bool} (hw : Walks (txSee ws l) N ok) : N ≤ 1000000 := by
  have h1 := hw.len
  have h2 : chkP ws l := by
    unfold chkN at hc
    split at hc
    · assumption
    · cases hc
  have h3 := h2.1.2.2
  omega
end
theorem ret_boolq {a b : Bool} (h : a = b) : Ending.returned (.bool a) = .returned (.bool b) := by rw [h]
/-! ### Merged -/
def mergedL (l : List Blk) : Bool := (List.range l.length).all fun i => i == 0 || gU l (i - 1) || gU l i
theorem merged_yes {l : List Blk} {n : Nat} (hn : l.length = n) (h : ∀ j, j < n → 1 ≤ j → ¬ (gU l (j - 1) = false ∧ gU l j = false)) : true = mergedL l := by
  unfold mergedL
  refine (List.all_eq_true.2 fun i hi => ?_).symm
  have h1 := h i (by rw [← hn]; exact List.mem_range.1 hi)
  by_cases h0 : i = 0
  · simp [h0]
  · have h2 := h1 (by omega)
    cases e1 : gU l (i - 1) <;> cases e2 : gU l i <;> simp_all
theorem merged_no {l : List Blk} {k : Nat} (hk : k < l.length) (h1 : 1 ≤ k) (h2 : gU l (k - 1) = false) (h3 : gU l k = false) : false = mergedL l := by
  unfold mergedL
  refine (List.all_eq_false.2 ⟨k, List.mem_range.2 hk, ?_⟩).symm
  simp [h2, h3]
  omega
end Go.Proofs.Ytkpopaadkfgjaaa
