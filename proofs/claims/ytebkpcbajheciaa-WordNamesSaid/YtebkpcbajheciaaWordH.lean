/-
  The contract of Name: the name of which two words are Pack's, or none.
  Conditions: the words are 0 to 2^64 - 1.
-/
import Derived.Test.YtebkpcbajheciaaWordG
import Derived.Deep.OwnRows
import Derived.Laws.BytesArg
import Derived.LoopTactic
namespace Go.Proofs.Ytebkpcbajheciaa
open Go.RowKit
set_option linter.unusedVariables false
set_option linter.unusedSimpArgs false
def byteAt (x0 x1 i : Nat) : Nat := if i < 8 then x0 / 256 ^ i % 256 else x1 / 256 ^ (i - 8) % 256
theorem byteAt_lt (x0 x1 i : Nat) : byteAt x0 x1 i < 256 := by unfold byteAt; split <;> exact Nat.mod_lt _ (by decide)
def numsOf (x0 x1 n : Nat) : List Int := (List.range n).map fun j => (byteAt x0 x1 (j + 1) : Int)
def strOf (x0 x1 n : Nat) : ByteArray := strOfNums (numsOf x0 x1 n)
theorem nums_len (x0 x1 n : Nat) : (numsOf x0 x1 n).length = n := by simp [numsOf]
theorem str_size (x0 x1 n : Nat) : (strOf x0 x1 n).size = n := by unfold strOf; rw [strOfNums_size, nums_len]
theorem nums_at (x0 x1 n i : Nat) (h : i < n) : (numsOf x0 x1 n).getD i 0 = byteAt x0 x1 (i + 1) := by
  simp [numsOf, List.getD, h]

/-- What holds at the head of Name's loop. -/
structure NameRel (w : World) (x0 x1 n k : Nat) (wr : World) : Prop where
  c0 : wr.cell? ⟨w.heap.size, 0, none⟩ = some (.int .u64 x0)
  c1 : wr.cell? ⟨w.heap.size, 1, none⟩ = some (.int .u64 x1)
  row : wr.rowIs (w.heap.size + 1) 5 n (fun j => .int .u8 ((if j < k then byteAt x0 x1 (j + 1) else 0 : Nat) : Int))
  below : Below w.heap.size w wr
theorem NameRel.first (w : World) (x0 x1 n : Nat) : NameRel w x0 x1 n 0 ((w.alloc (.cells #[.int .u64 x0, .int .u64 x1] 31)).alloc (.cells (madeCells #[.int .u8 0] n) 5)) where
  c0 := by go_cell
  c1 := by go_cell
  row := by
    have h := World.rowIs_made (w.alloc (.cells #[.int .u64 x0, .int .u64 x1] 31)) (.int .u8 0) n 5
    rw [World.size_alloc] at h
    exact h.congr (fun i _ => by simp)
  below := ((Below.refl _ _).alloc (Nat.le_refl _) _).alloc (by simp) _
theorem NameRel.next {w wr : World} {x0 x1 n k : Nat} (R : NameRel w x0 x1 n k wr) : NameRel w x0 x1 n (k + 1) (wr.setCell ⟨w.heap.size + 1, k, none⟩ (.int .u8 (byteAt x0 x1 (k + 1) : Nat))) where
  c0 := by rw [World.cell?_setCell_other _ _ _ _ (by simp)]; exact R.c0
  c1 := by rw [World.cell?_setCell_other _ _ _ _ (by simp)]; exact R.c1
  row := (R.row.set k _).congr (fun i _ => by
    by_cases h : i = k
    · subst h; simp
    · have : i < k + 1 ↔ i < k := by omega
      simp [h, this])
  below := R.below.setCell (by simp) _
theorem byte_any (i : Int) (k x0 x1 : Nat) (ei : i = k) (hk : k < 16) (h0 : x0 < 18446744073709551616) (h1 : x1 < 18446744073709551616) (B : Nat) (w : World)
    (c0 : w.cell? ⟨B, 0, none⟩ = some (.int .u64 x0)) (c1 : w.cell? ⟨B, 1, none⟩ = some (.int .u64 x1)) :
    Calls Try.prog 33 #[.int .i64 i, .pointer (some ⟨B, 0, none⟩)] w fun e w' => e = .returned (.int .u8 (byteAt x0 x1 k : Nat)) ∧ w = w' := by
  unfold byteAt
  by_cases h : k < 8
  · rw [if_pos h]; exact byte_low i k x0 ei h h0 B w c0
  · rw [if_neg h]; exact byte_high i (k - 8) x1 (by omega) (by omega) h1 B w c1
theorem info_u8 : (Try.prog.info? 5).map (fun i => (i.zero, i.size, i.bytes)) = some (some (.int .u8 0), 1, 1) := by kernel_rfl

set_option maxHeartbeats 1000000 in
/-- Name, where the first byte says 15 at most: lo, hi and ok are what Pack tells of what stands there; bb: are they the two words that were handed in? -/
theorem name_core (x0 x1 n lo hi : Nat) (ok bb : Bool) (h0 : x0 < 18446744073709551616) (h1 : x1 < 18446744073709551616) (en : byteAt x0 x1 0 = n) (hn15 : n ≤ 15)
    (HP : ∀ w : World, Calls Try.prog 24 #[.string (strOf x0 x1 n)] w fun e w' => e = .returned (.tuple #[.agg #[.int .u64 lo, .int .u64 hi], .bool ok]) ∧ Below w.heap.size w w')
    (hbb : (ok = false ∧ bb = false) ∨ (ok = true ∧ ((lo : Int) == (x0 : Int) && (hi : Int) == (x1 : Int)) = bb)) (w : World) :
    Calls Try.prog 26 #[.agg #[.int .u64 x0, .int .u64 x1]] w fun e w' => e = .returned (.tuple #[.string (if bb then strOf x0 x1 n else ByteArray.empty), .bool bb]) ∧ Below w.heap.size w w' := by
  have hmk := fun w => run_make_row' (P := Try.prog) 45 5 (.int .u8 0) 1 Try.underlying45 info_u8 rfl .i64 .i64 n (by omega) (by omega) w
  have R0 := NameRel.first w x0 x1 n
  have hd : decide (15 < (n : Int)) = false := by rw [decide_eq_false_iff_not]; omega
  have hls := nums_len x0 x1 n
  have HLS := Lib.hid hls
  clear hls
  go_enter Try.func26, Try.ntmps26
  go_wp2_with (first | (go_at_call 33; refine (byte_any _ 0 x0 x1 rfl (by decide) h0 h1 w.heap.size _ (by go_cell) (by go_cell)).mono ?_; rw [en]; rintro e w' ⟨rfl, rfl⟩))
  go_loopw [20] (fun i wr => ∃ k : Nat, k ≤ n ∧ i = .int .i64 k ∧ NameRel w x0 x1 n k wr) (fun i _ => n - (intOf i).toNat)
  case atStart => exact ⟨0, Nat.zero_le _, rfl, R0⟩
  case round =>
    obtain ⟨k, hk, rfl, R⟩ := hrel
    clear R0
    by_cases hlt : k < n
    · have q0 := R.row.cell hlt
      have q1 := R.row.frozen k
      go_wp2_with (first | (go_at_call 33; refine (byte_any _ (k + 1) x0 x1 (by omega) (by omega) h0 h1 w.heap.size _ R.c0 R.c1).mono ?_; rintro e w' ⟨rfl, rfl⟩))
      go_roundw
      case rel => exact ⟨k + 1, by omega, by go_num, R.next⟩
      case measure => simp [intOf]; omega
    · obtain rfl : k = n := by omega
      have hconv := run_convert_bytes_arg (P := Try.prog) wr 45 5 Try.underlying45 Try.underlying5 (w.heap.size + 1) 0 k k (numsOf x0 x1 k) HLS.out (fun i hi => by
        rw [nums_at x0 x1 k i hi, Nat.zero_add, R.row.cell hi]; simp [hi]) 9 Try.underlying9
      have q0 := R.c0
      have q1 := R.c1
      have heq := eq_arr
      have hsz := R.below.size
      rcases hbb with ⟨rfl, rfl⟩ | ⟨rfl, hbb⟩
      rotate_left
      cases bb
      all_goals
        go_wp2_with (first | (go_at_call 24; refine (HP _).mono ?_; rintro e w1 ⟨rfl, hb1⟩; have q2 := cell_later hb1 q0; have q3 := cell_later hb1 q1; have hs1 := hb1.size; have hrl := R.row.lt; have hs2 : w.heap.size < w1.heap.size := by omega))
        go_ret2
        exact ⟨rfl, (R.below.trans (hb1.mono hsz)).alloc (by omega) _⟩
set_option maxHeartbeats 1000000 in
/-- Name, where the first byte says more than 15. -/
theorem name_big (x0 x1 n : Nat) (h0 : x0 < 18446744073709551616) (h1 : x1 < 18446744073709551616) (en : byteAt x0 x1 0 = n) (hn : 15 < n) (w : World) :
    Calls Try.prog 26 #[.agg #[.int .u64 x0, .int .u64 x1]] w fun e w' => e = .returned (.tuple #[.string ByteArray.empty, .bool false]) ∧ Below w.heap.size w w' := by
  have hb := byteAt_lt x0 x1 0
  rw [en] at hb
  go_enter Try.func26, Try.ntmps26
  go_wp2_with (first | (go_at_call 33; refine (byte_any _ 0 x0 x1 rfl (by decide) h0 h1 w.heap.size _ (by go_cell) (by go_cell)).mono ?_; rw [en]; rintro e w' ⟨rfl, rfl⟩))
  go_ret2
  exact ⟨rfl, (Below.refl _ _).alloc (Nat.le_refl _) _⟩

/-! ### What Name tells, by Pack -/
theorem le_byte : ∀ (i : Nat) (l : List UInt8), leOf l / 256 ^ i % 256 = (l[i]?.getD 0).toNat
  | 0, [] => by simp [leOf]
  | 0, b :: r => by
    have hb := b.toNat_lt
    simp only [leOf, Nat.pow_zero, Nat.div_one, List.getElem?_cons_zero, Option.getD_some]
    omega
  | i + 1, [] => by simp [leOf]
  | i + 1, b :: r => by
    have hb := b.toNat_lt
    have ih := le_byte i r
    have e : (b.toNat + 256 * leOf r) / 256 = leOf r := by omega
    simp only [leOf, List.getElem?_cons_succ]
    rw [Nat.pow_succ, Nat.mul_comm (256 ^ i) 256, ← Nat.div_div_eq_div_mul, e, ih]
def loS (s : ByteArray) : Nat := loOf s (s.size + 1)
def hiS (s : ByteArray) : Nat := hiOf s (s.size + 1)
theorem nm_all (s : ByteArray) : (nm s).take (s.size + 1) = nm s := List.take_of_length_le (by rw [nm_len]; exact Nat.le_refl _)
theorem loS_lt (s : ByteArray) : loS s < 18446744073709551616 := by
  have := leOf_lt (((nm s).take (s.size + 1)).take 8)
  have h2 : (((nm s).take (s.size + 1)).take 8).length ≤ 8 := by rw [List.length_take]; omega
  have h3 : (256 : Nat) ^ (((nm s).take (s.size + 1)).take 8).length ≤ 256 ^ 8 := Nat.pow_le_pow_right (by decide) h2
  rw [show (256 : Nat) ^ 8 = 18446744073709551616 by decide] at h3
  unfold loS loOf
  omega
theorem hiS_lt (s : ByteArray) (h : s.size ≤ 15) : hiS s < 18446744073709551616 := by
  have := leOf_lt (((nm s).take (s.size + 1)).drop 8)
  have h2 : (((nm s).take (s.size + 1)).drop 8).length ≤ 8 := by rw [List.length_drop, take_len s _ (Nat.le_refl _)]; omega
  have h3 : (256 : Nat) ^ (((nm s).take (s.size + 1)).drop 8).length ≤ 256 ^ 8 := Nat.pow_le_pow_right (by decide) h2
  rw [show (256 : Nat) ^ 8 = 18446744073709551616 by decide] at h3
  unfold hiS hiOf
  omega
theorem byte_of (s : ByteArray) (i : Nat) : byteAt (loS s) (hiS s) i = ((nm s)[i]?.getD 0).toNat := by
  unfold byteAt loS hiS loOf hiOf
  rw [nm_all]
  by_cases h : i < 8
  · rw [if_pos h, le_byte, List.getElem?_take_of_lt h]
  · rw [if_neg h, le_byte, List.getElem?_drop, show 8 + (i - 8) = i by omega]
theorem byte_first (s : ByteArray) (h : s.size < 256) : byteAt (loS s) (hiS s) 0 = s.size := by
  rw [byte_of]
  simp [nm]
  omega
theorem str_of (s : ByteArray) : strOf (loS s) (hiS s) s.size = s := by
  have h : (strOf (loS s) (hiS s) s.size).data.toList = s.data.toList := by
    unfold strOf
    rw [strOfNums_data]
    apply List.ext_getElem?
    intro i
    by_cases hi : i < s.size
    · have hi' : i < s.data.toList.length := by simpa using hi
      simp only [numsOf, List.map_map, List.getElem?_map, List.getElem?_range hi, Option.map_some, Function.comp]
      rw [byte_of, List.getElem?_eq_getElem hi']
      simp [nm, List.getElem?_eq_getElem hi']
    · rw [List.getElem?_eq_none (by simp [numsOf]; omega), List.getElem?_eq_none (by simp; omega)]
  cases hs : strOf (loS s) (hiS s) s.size with
  | mk d =>
    rw [hs] at h
    cases s with
    | mk d' => exact congrArg ByteArray.mk (Array.toList_inj.mp h)
theorem pack_yes (s : ByteArray) (h1 : 1 ≤ s.size) (h2 : s.size ≤ 15) (w : World) :
    Calls Try.prog 24 #[.string s] w fun e w' => e = .returned (.tuple #[.agg #[.int .u64 (loS s : Nat), .int .u64 (hiS s : Nat)], .bool true]) ∧ Below w.heap.size w w' := pack_any s h1 h2 w
theorem name_yes (s : ByteArray) (h1 : 1 ≤ s.size) (h2 : s.size ≤ 15) (w : World) :
    Calls Try.prog 26 #[.agg #[.int .u64 (loS s : Nat), .int .u64 (hiS s : Nat)]] w fun e w' => e = .returned (.tuple #[.string s, .bool true]) ∧ Below w.heap.size w w' := by
  have h := name_core (loS s) (hiS s) s.size (loS s) (hiS s) true true (loS_lt s) (hiS_lt s h2) (byte_first s (by omega)) h2 (by rw [str_of]; exact pack_yes s h1 h2) (.inr ⟨rfl, by simp⟩) w
  rw [str_of] at h
  exact h
theorem name_no (x0 x1 : Nat) (h0 : x0 < 18446744073709551616) (h1 : x1 < 18446744073709551616) (hno : ∀ s : ByteArray, 1 ≤ s.size → s.size ≤ 15 → ¬ (loS s = x0 ∧ hiS s = x1)) (w : World) :
    Calls Try.prog 26 #[.agg #[.int .u64 x0, .int .u64 x1]] w fun e w' => e = .returned (.tuple #[.string ByteArray.empty, .bool false]) ∧ Below w.heap.size w w' := by
  obtain ⟨n, en⟩ : ∃ n, byteAt x0 x1 0 = n := ⟨_, rfl⟩
  rcases Nat.lt_or_ge 15 n with hb | hb
  · exact name_big x0 x1 n h0 h1 en hb w
  · have hz := str_size x0 x1 n
    rcases Nat.eq_zero_or_pos n with hn | hn
    · exact name_core x0 x1 n 0 0 false false h0 h1 en hb (pack_not _ (.inl (by rw [hz]; exact hn)) (by omega)) (.inl ⟨rfl, rfl⟩) w
    · have := hno (strOf x0 x1 n) (by omega) (by omega)
      exact name_core x0 x1 n _ _ true false h0 h1 en hb (pack_yes _ (by omega) (by omega)) (.inr ⟨rfl, by
        rw [Bool.and_eq_false_iff, beq_eq_false_iff_ne, beq_eq_false_iff_ne]
        rcases Classical.em (loS (strOf x0 x1 n) = x0) with h | h
        · right; intro h'; exact this ⟨h, by omega⟩
        · left; omega⟩) w
end Go.Proofs.Ytebkpcbajheciaa
