/-
  What the statements of layer 5 begin with: a formatted segment of 4800 bytes, and words that are thought of over it, in the program's way, and in the document's (formed).
  Conditions: the pairs lie in memory; the numbers are of 64 bits.
-/
import Derived.Test.YtkpopaadkfgjaaaTagD
import Derived.Test.YtkpopaadkfgjaaaLTx
import Derived.Test.YtkpopaadkfgjaaaLHead
namespace Go.Proofs.Ytkpopaadkfgjaaa
open Go.RowKit
set_option linter.unusedVariables false
set_option linter.unusedSimpArgs false

/-- the formatted segment's words -/
def fmt48 (n : Nat) : List Nat := fmt (List.replicate 600 0) n
theorem fmt48_len (n : Nat) : (fmt48 n).length = 600 := len48 n
theorem fmt48_yes {n : Nat} (h : fitsP n 4800) : fmt48 n = fmtW 600 n := by
  have hf : fitsP n (8 * (List.replicate 600 0).length) := by rw [List.length_replicate]; exact h
  unfold fmt48
  rw [(fmt_yes hf).1, List.length_replicate]
theorem fmt48_no {n : Nat} (h : ¬ fitsP n 4800) : fmt48 n = List.replicate 600 0 := by
  have hf : ¬ fitsP n (8 * (List.replicate 600 0).length) := by rw [List.length_replicate]; exact h
  unfold fmt48
  rw [(fmt_no hf).1]
theorem rformat48 (n : Nat) (hn : n < 18446744073709551616) (w : World) :
    Calls Try.prog 24 #[.int .u64 4800, .int .u64 n] w fun e w' => ∃ v k, e = .returned (.tuple #[v, .int .i64 k]) ∧ w.grownBy w' none ∧ OwnW w' w.heap.size v (fmt48 n) := by
  by_cases h : fitsP n 4800
  · have hc : Calls Try.prog 24 #[.int .u64 4800, .int .u64 n] w _ := rformat_yes 600 n (by decide) h w
    rw [fmt48_yes h]
    refine hc.mono ?_
    rintro e w' ⟨v, rfl, h1, h2⟩
    exact ⟨v, 0, rfl, h1, h2⟩
  · have hc : Calls Try.prog 24 #[.int .u64 4800, .int .u64 n] w _ := rformat_no 600 n (by decide) (by decide) h w
    rw [fmt48_no h]
    refine hc.mono ?_
    rintro e w' ⟨v, rfl, h1, h2⟩
    exact ⟨v, 2, rfl, h1, h2⟩
/-- What formed tells. -/
def Formed (w : World) (ws : List Nat) (l : List (Nat × Nat)) (e : Ending) (w' : World) : Prop :=
  ∃ B D T M R wv pv, e = .returned (.tuple #[.pointer (some ⟨T, 0, none⟩), .agg #[wv, pv]]) ∧ Txs w w' T M R B D ws l ∧ RTx w' w.heap.size wv pv ws l ∧ ∀ g, wv.ownBlock = some g → R ≠ some g
end Go.Proofs.Ytkpopaadkfgjaaa
