/-
  What holds in Pack's loop: the two words hold the bytes that are laid, the lowest first; all that was there is as it was.
  Conditions: the name has 1 to 15 bytes.
-/
import Derived.Test.YtebkpcbajheciaaWordC
import Derived.Deep.LoopGhost
namespace Go.Proofs.Ytebkpcbajheciaa
open Go.RowKit
set_option linter.unusedVariables false
set_option linter.unusedSimpArgs false
/-- A name's bytes: how many there are, and they. -/
def nm (s : ByteArray) : List UInt8 := UInt8.ofNat s.size :: s.data.toList
theorem nm_len (s : ByteArray) : (nm s).length = s.size + 1 := by simp [nm]
def loOf (s : ByteArray) (m : Nat) : Nat := leOf (((nm s).take m).take 8)
def hiOf (s : ByteArray) (m : Nat) : Nat := leOf (((nm s).take m).drop 8)
theorem nm_snoc (s : ByteArray) (k : Nat) (h : k < s.size) : (nm s).take (k + 2) = (nm s).take (k + 1) ++ [s[k]] := by
  rw [List.take_succ_eq_append_getElem (by rw [nm_len]; omega)]
  congr 1
theorem take_len (s : ByteArray) (m : Nat) (h : m ≤ s.size + 1) : ((nm s).take m).length = m := by
  rw [List.length_take, nm_len]; omega
theorem lo_step (s : ByteArray) (k : Nat) (h : k < s.size) (h8 : k + 1 < 8) : loOf s (k + 2) = loOf s (k + 1) + s[k].toNat * 256 ^ (k + 1) := by
  unfold loOf
  rw [List.take_of_length_le (i := 8) (by rw [take_len s _ (by omega)]; omega), List.take_of_length_le (i := 8) (by rw [take_len s _ (by omega)]; omega), nm_snoc s k h, leOf_snoc, take_len s _ (by omega)]
theorem hi_none (s : ByteArray) (m : Nat) (h : m ≤ 8) : hiOf s m = 0 := by
  unfold hiOf
  rw [List.drop_of_length_le (by rw [List.length_take]; omega)]
  rfl
theorem lo_stays (s : ByteArray) (m : Nat) (h8 : 8 ≤ m) : loOf s (m + 1) = loOf s m := by
  unfold loOf
  rw [List.take_take, List.take_take]
  congr 2
  omega
theorem hi_step (s : ByteArray) (k : Nat) (h : k < s.size) (h8 : 8 ≤ k + 1) : hiOf s (k + 2) = hiOf s (k + 1) + s[k].toNat * 256 ^ (k - 7) := by
  unfold hiOf
  rw [nm_snoc s k h, List.drop_append_of_le_length (by rw [take_len s _ (by omega)]; omega), leOf_snoc, List.length_drop, take_len s _ (by omega)]
  congr 3
theorem lo_lt (s : ByteArray) (m : Nat) (h : m ≤ s.size + 1) (h8 : m ≤ 8) : loOf s m < 256 ^ m := by
  have := leOf_lt (((nm s).take m).take 8)
  rw [List.length_take, take_len s _ h, Nat.min_eq_right h8] at this
  exact this
theorem hi_lt (s : ByteArray) (m : Nat) (h : m ≤ s.size + 1) : hiOf s m < 256 ^ (m - 8) := by
  have := leOf_lt (((nm s).take m).drop 8)
  rw [List.length_drop, take_len s _ h] at this
  exact this
theorem lo_first (s : ByteArray) (h : s.size < 256) : loOf s 1 = s.size := by
  simp [loOf, nm, leOf]
  omega

theorem set_same {w : World} {a : Addr} {v u : Value} (h : w.cell? a = some u) : (w.setCell a v).drew.cell? a = some v := by
  rw [World.cell?_drew]; exact World.cell?_setCell_same _ _ _ h
theorem set_other {w : World} {a b : Addr} {v : Value} {x : Option Value} (hne : a ≠ b) (h : w.cell? b = x) : (w.setCell a v).drew.cell? b = x := by
  rw [World.cell?_drew, World.cell?_setCell_other _ _ _ _ hne]; exact h

/-- What holds at the head of Pack's loop: k bytes are laid behind the length. -/
structure PackRel (w : World) (s : ByteArray) (k : Nat) (wr : World) : Prop where
  lo : wr.cell? ⟨w.heap.size + 1, 0, none⟩ = some (.int .u64 (loOf s (k + 1) : Nat))
  hi : wr.cell? ⟨w.heap.size + 1, 1, none⟩ = some (.int .u64 (hiOf s (k + 1) : Nat))
  flo : wr.frozen? ⟨w.heap.size + 1, 0, none⟩ = false
  fhi : wr.frozen? ⟨w.heap.size + 1, 1, none⟩ = false
  r0 : wr.cell? ⟨w.heap.size, 0, none⟩ = some (.int .u64 0)
  r1 : wr.cell? ⟨w.heap.size, 1, none⟩ = some (.int .u64 0)
  g0 : wr.frozen? ⟨w.heap.size, 0, none⟩ = false
  g1 : wr.frozen? ⟨w.heap.size, 1, none⟩ = false
  below : Below w.heap.size w wr

theorem PackRel.low {w wr : World} {s : ByteArray} {k : Nat} (R : PackRel w s k wr) (h : k < s.size) (h8 : k + 1 < 8) :
    PackRel w s (k + 1) (wr.setCell ⟨w.heap.size + 1, 0, none⟩ (.int .u64 ((loOf s (k + 1) + s[k].toNat * 256 ^ (k + 1) : Nat) : Int))).drew where
  lo := by rw [lo_step s k h h8]; exact set_same R.lo
  hi := set_other (by simp) (by rw [R.hi, hi_none s _ (by omega), hi_none s _ (by omega)])
  flo := by rw [World.frozen?_drew, World.frozen?_setCell]; exact R.flo
  fhi := by rw [World.frozen?_drew, World.frozen?_setCell]; exact R.fhi
  r0 := set_other (by simp) R.r0
  r1 := set_other (by simp) R.r1
  g0 := by rw [World.frozen?_drew, World.frozen?_setCell]; exact R.g0
  g1 := by rw [World.frozen?_drew, World.frozen?_setCell]; exact R.g1
  below := (R.below.setCell (by simp) _).drew

theorem PackRel.high {w wr : World} {s : ByteArray} {k : Nat} (R : PackRel w s k wr) (h : k < s.size) (h8 : 8 ≤ k + 1) :
    PackRel w s (k + 1) (wr.setCell ⟨w.heap.size + 1, 1, none⟩ (.int .u64 ((hiOf s (k + 1) + s[k].toNat * 256 ^ (k - 7) : Nat) : Int))).drew where
  hi := by rw [hi_step s k h h8]; exact set_same R.hi
  lo := set_other (by simp) (by rw [R.lo, lo_stays s (k + 1) h8])
  flo := by rw [World.frozen?_drew, World.frozen?_setCell]; exact R.flo
  fhi := by rw [World.frozen?_drew, World.frozen?_setCell]; exact R.fhi
  r0 := set_other (by simp) R.r0
  r1 := set_other (by simp) R.r1
  g0 := by rw [World.frozen?_drew, World.frozen?_setCell]; exact R.g0
  g1 := by rw [World.frozen?_drew, World.frozen?_setCell]; exact R.g1
  below := (R.below.setCell (by simp) _).drew

theorem PackRel.first (w : World) (s : ByteArray) (h : s.size < 256) : PackRel w s 0 ((w.alloc (.cells #[.int .u64 0, .int .u64 0] 31)).alloc (.cells #[.int .u64 s.size, .int .u64 0] 31)).drew where
  lo := by rw [lo_first s h]; go_cell
  hi := by rw [hi_none s _ (by omega)]; go_cell
  flo := by simp
  fhi := by simp
  r0 := by go_cell
  r1 := by go_cell
  g0 := by simp
  g1 := by simp
  below := (((Below.refl _ _).alloc (Nat.le_refl _) _).alloc (by simp) _).drew
end Go.Proofs.Ytebkpcbajheciaa
