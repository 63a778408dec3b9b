/-
  The contract of the plain answer Pack: bytes taken from the last one on, 256 times what was there and the byte.
  Conditions: the string is one that may be.
-/
import Derived.Test.YtebkpcbajheciaaWordH
import Derived.LoopTactic
import Derived.Laws.IdiomStrings
import Derived.RegionTactic
import Derived.ChangeAlike
import Derived.BigRegion
namespace Go.Proofs.Ytebkpcbajheciaa
open Go.RowKit
set_option linter.unusedVariables false
set_option linter.unusedSimpArgs false
/-- a string's bytes, as cells -/
def bytesOf (s : ByteArray) : List Value := s.data.toList.map fun b => .int .u8 (b.toNat : Int)
theorem bytes_len (s : ByteArray) : (bytesOf s).length = s.size := by simp [bytesOf]
theorem row_first (s : ByteArray) (c j : Nat) (u : Value) (h : (bytesOf s)[j]? = some u) : (bytesRow s c)[j]? = some u := by
  have hj : j < s.size := by
    rcases Nat.lt_or_ge j s.size with h' | h'
    · exact h'
    · rw [List.getElem?_eq_none (by rw [bytes_len]; exact h')] at h; exact absurd h (by simp)
  have hj' : j < s.data.size := hj
  unfold bytesRow
  rw [Array.getElem?_append_left (by simpa using hj')]
  simpa [bytesOf] using h
theorem nm_cells (s : ByteArray) (h : s.size < 256) (j : Nat) (hj : j < s.size + 1) : (.int .u8 (s.size : Int) :: bytesOf s)[j]? = some (Value.int .u8 (((nm s)[j]?.getD 0).toNat : Nat)) := by
  rcases j with _ | j
  · simp [nm]; omega
  · have hj' : j < s.data.toList.length := by simp; exact Nat.lt_of_succ_lt_succ hj
    simp [nm, bytesOf, List.getElem?_eq_getElem hj']
theorem own_first (w : World) (n : Int) (O A : Obj) : (((w.alloc O).alloc (.cells #[.int .u8 n] 5)).alloc A).drew.ownsRow (w.heap.size + 1) 5 1 (.slice (some ⟨w.heap.size + 1, 0, none⟩) 1 1) 1 [.int .u8 n] := by
  have h : ((w.alloc O).alloc (.cells #[.int .u8 n] 5)).ownsRow (w.heap.size + 1) 5 1 (.slice (some ⟨w.heap.size + 1, 0, none⟩) 1 1) 1 [.int .u8 n] := by
    refine ⟨rfl, .inr ⟨w.heap.size + 1, 1, #[.int .u8 n], rfl, Nat.le_refl _, ?_, Nat.le_refl _, by unfold maxLen; omega, rfl, rfl⟩⟩
    have := Go.heap_alloc_new (w.alloc O) (.cells #[.int .u8 n] 5)
    rw [World.size_alloc] at this
    exact this
  exact h.alloc A
theorem cells_second (w : World) (s : ByteArray) (c : Nat) (O A : Obj) (t : Nat) (fr : Nat × Nat) (j : Nat) (u : Value) (h : (bytesOf s)[j]? = some u) :
    (((w.alloc O).alloc A).alloc (.cells (bytesRow s c) t fr)).cell? ⟨w.heap.size + 2, j, none⟩ = some u := by
  have hm := World.cell?_alloc_mark ((w.alloc O).alloc A) (bytesRow s c) t fr j
  rw [World.size_alloc, World.size_alloc] at hm
  rw [hm]
  exact row_first s c j u h
theorem one_cells (s : ByteArray) : ∀ u ∈ bytesOf s, u.oneCell' = true := by
  intro u hu
  obtain ⟨b, _, rfl⟩ := List.mem_map.mp hu
  rfl

/-- What holds at the head of the loop: the bytes from r on are in the words. -/
structure RPRel (w w1 : World) (s : ByteArray) (g r : Nat) (wr : World) : Prop where
  lo : wr.cell? ⟨w1.heap.size, 0, none⟩ = some (.int .u64 (leOf (((nm s).take 8).drop r) : Nat))
  hi : wr.cell? ⟨w1.heap.size, 1, none⟩ = some (.int .u64 (leOf ((nm s).drop (max r 8)) : Nat))
  flo : wr.frozen? ⟨w1.heap.size, 0, none⟩ = false
  fhi : wr.frozen? ⟨w1.heap.size, 1, none⟩ = false
  r0 : wr.cell? ⟨w.heap.size, 0, none⟩ = some (.int .u64 0)
  r1 : wr.cell? ⟨w.heap.size, 1, none⟩ = some (.int .u64 0)
  g0 : wr.frozen? ⟨w.heap.size, 0, none⟩ = false
  g1 : wr.frozen? ⟨w.heap.size, 1, none⟩ = false
  bs : ∀ j, j < s.size + 1 → wr.cell? ⟨g, j, none⟩ = some (.int .u8 (((nm s)[j]?.getD 0).toNat : Nat))
  below : Below w.heap.size w wr
theorem le_at (s : ByteArray) (r : Nat) (h8 : r < 8) (hr : r < s.size + 1) : leOf (((nm s).take 8).drop r) = 256 * leOf (((nm s).take 8).drop (r + 1)) + ((nm s)[r]?.getD 0).toNat := by
  have hl : r < ((nm s).take 8).length := by rw [List.length_take, nm_len]; omega
  have hn : r < (nm s).length := by rw [nm_len]; exact hr
  rw [List.drop_eq_getElem_cons hl, List.getElem_take, List.getElem?_eq_getElem hn]
  simp only [leOf, Option.getD_some]
  omega
theorem le_at_high (s : ByteArray) (r : Nat) (hr : r < s.size + 1) : leOf ((nm s).drop r) = 256 * leOf ((nm s).drop (r + 1)) + ((nm s)[r]?.getD 0).toNat := by
  have hn : r < (nm s).length := by rw [nm_len]; exact hr
  rw [List.drop_eq_getElem_cons hn, List.getElem?_eq_getElem hn]
  simp only [leOf, Option.getD_some]
  omega
theorem low_empty (s : ByteArray) (r : Nat) (h : 8 ≤ r) : leOf (((nm s).take 8).drop r) = 0 := by
  rw [List.drop_of_length_le (by rw [List.length_take]; omega)]; rfl
theorem RPRel.low {w w1 wr : World} {s : ByteArray} {g r : Nat} (R : RPRel w w1 s g (r + 1) wr) (hw : w.heap.size < w1.heap.size) (hg : g < w1.heap.size) (h8 : r < 8) (hr : r < s.size + 1) (v : Nat) (hv : v = leOf (((nm s).take 8).drop r)) :
    RPRel w w1 s g r (wr.setCell ⟨w1.heap.size, 0, none⟩ (.int .u64 v)).drew where
  lo := by rw [← hv]; exact set_same R.lo
  hi := set_other (by simp) (by rw [R.hi, Nat.max_eq_right (by omega), Nat.max_eq_right (by omega)])
  flo := by rw [World.frozen?_drew, World.frozen?_setCell]; exact R.flo
  fhi := by rw [World.frozen?_drew, World.frozen?_setCell]; exact R.fhi
  r0 := set_other (by simp <;> omega) R.r0
  r1 := set_other (by simp) R.r1
  g0 := by rw [World.frozen?_drew, World.frozen?_setCell]; exact R.g0
  g1 := by rw [World.frozen?_drew, World.frozen?_setCell]; exact R.g1
  bs := fun j hj => set_other (by simp <;> omega) (R.bs j hj)
  below := (R.below.setCell (by simp <;> omega) _).drew
theorem RPRel.high {w w1 wr : World} {s : ByteArray} {g r : Nat} (R : RPRel w w1 s g (r + 1) wr) (hw : w.heap.size < w1.heap.size) (hg : g < w1.heap.size) (h8 : 8 ≤ r) (hr : r < s.size + 1) (v : Nat) (hv : v = leOf ((nm s).drop r)) :
    RPRel w w1 s g r (wr.setCell ⟨w1.heap.size, 1, none⟩ (.int .u64 v)).drew where
  hi := by rw [Nat.max_eq_left h8, ← hv]; exact set_same R.hi
  lo := set_other (by simp) (by rw [R.lo, low_empty s _ (by omega), low_empty s _ h8])
  flo := by rw [World.frozen?_drew, World.frozen?_setCell]; exact R.flo
  fhi := by rw [World.frozen?_drew, World.frozen?_setCell]; exact R.fhi
  r0 := set_other (by simp) R.r0
  r1 := set_other (by simp <;> omega) R.r1
  g0 := by rw [World.frozen?_drew, World.frozen?_setCell]; exact R.g0
  g1 := by rw [World.frozen?_drew, World.frozen?_setCell]; exact R.g1
  bs := fun j hj => set_other (by simp <;> omega) (R.bs j hj)
  below := (R.below.setCell (by simp <;> omega) _).drew
end Go.Proofs.Ytebkpcbajheciaa
