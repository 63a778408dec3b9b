/-
  The contract of 'awake' of layer 3, and of 'words': all words of a segment of 80 bytes.
  No condition.
-/
import Derived.Test.YtkpopaadkfgjaaaTxX
namespace Go.Proofs.Ytkpopaadkfgjaaa
open Go.RowKit
set_option linter.unusedVariables false
set_option linter.unusedSimpArgs false

theorem aw_new (w : World) : Calls Try.prog 22 #[.int .u64 32] w fun e w' => e = .returned (.pointer (some ⟨w.heap.size + 1, 0, none⟩)) ∧ w.grownBy w' none ∧ IsSeg w' (w.heap.size + 1) w.heap.size [0, 0, 0, 0] := new_yes 4 (by decide) (by decide) w
section
variable {w0 w : World} {T M : Nat} {R : Option Nat} {B D : Nat}
theorem aw_store1 (h : Txs w0 w T M R B D [0, 0, 0, 0] []) : Calls Try.prog 26 #[.pointer (some ⟨T, 0, none⟩), .int .u64 8, .int .u64 1] w fun e w' => e = .returned (.tuple #[]) ∧ ∃ R', Txs w0 w' T M R' B D [0, 0, 0, 0] [(8, 1)] :=
  (txstore_any h.tx 8 1 (by decide) (by decide)).mono fun e w' ⟨h1, h2⟩ => by
    obtain ⟨R', h3, _⟩ := h.step h2
    exact ⟨h1, R', h3⟩
theorem aw_store2 (h : Txs w0 w T M R B D [0, 0, 0, 0] [(8, 1)]) : Calls Try.prog 26 #[.pointer (some ⟨T, 0, none⟩), .int .u64 8, .int .u64 2] w fun e w' => e = .returned (.tuple #[]) ∧ ∃ R', Txs w0 w' T M R' B D [0, 0, 0, 0] [(8, 2)] :=
  (txstore_any h.tx 8 2 (by decide) (by decide)).mono fun e w' ⟨h1, h2⟩ => by
    obtain ⟨R', h3, _⟩ := h.step h2
    exact ⟨h1, R', h3⟩
theorem aw_store3 (h : Txs w0 w T M R B D [0, 0, 0, 0] [(8, 2)]) : Calls Try.prog 26 #[.pointer (some ⟨T, 0, none⟩), .int .u64 3, .int .u64 9] w fun e w' => e = .returned (.tuple #[]) ∧ ∃ R', Txs w0 w' T M R' B D [0, 0, 0, 0] [(8, 2)] :=
  (txstore_any h.tx 3 9 (by decide) (by decide)).mono fun e w' ⟨h1, h2⟩ => by
    obtain ⟨R', h3, _⟩ := h.step h2
    exact ⟨h1, R', h3⟩
theorem aw_load1 (h : IsSeg w B D [0, 0, 0, 0]) : Calls Try.prog 61 #[.pointer (some ⟨B, 0, none⟩), .int .u64 8] w fun e w' => e = .returned (.tuple #[.int .u64 0, .int .i64 0]) ∧ w.grownBy w' none := load_any (.inr ⟨B, D, rfl, h⟩) 8 (by decide)
theorem aw_load2 (h : IsSeg w B D [0, 2, 0, 0]) : Calls Try.prog 61 #[.pointer (some ⟨B, 0, none⟩), .int .u64 8] w fun e w' => e = .returned (.tuple #[.int .u64 2, .int .i64 0]) ∧ w.grownBy w' none := load_any (.inr ⟨B, D, rfl, h⟩) 8 (by decide)
theorem aw_load (h : Txs w0 w T M R B D [0, 2, 0, 0] [(8, 2)]) : Calls Try.prog 21 #[.pointer (some ⟨T, 0, none⟩), .int .u64 8] w fun e w' => e = .returned (.int .u64 2) ∧ w.grownBy w' none := txload_any h.tx 8 (by decide)
end
/-! ### words -/
/-- the first k words -/
def firstW (ws : List Nat) (k : Nat) : List Nat := (List.range k).map fun j => getW ws (8 * j)
theorem firstW_step (ws : List Nat) (k : Nat) : firstW ws (k + 1) = firstW ws k ++ [getW ws (8 * k)] := by
  unfold firstW
  rw [List.range_succ, List.map_append]
  rfl
theorem firstW_len (ws : List Nat) (k : Nat) : (firstW ws k).length = k := by simp [firstW]
theorem firstW_all (ws : List Nat) : firstW ws ws.length = ws := by
  apply List.ext_getElem?
  intro i
  rcases Nat.lt_or_ge i ws.length with h | h
  · have hs : stands ws (8 * i) := ⟨by omega, by omega⟩
    unfold firstW
    rw [List.getElem?_map, List.getElem?_range h, Option.map_some]
    unfold getW
    rw [if_pos hs, show 8 * i / 8 = i by omega, List.getD_eq_getElem?_getD, List.getElem?_eq_getElem h]
    rfl
  · rw [List.getElem?_eq_none (by rw [firstW_len]; exact h), List.getElem?_eq_none h]
end Go.Proofs.Ytkpopaadkfgjaaa
