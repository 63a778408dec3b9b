/-
  Package seg: the contract of Store: the word at an offset is the one that is stored, or ErrArg; no other word turns, nor what else was there.
  Conditions: the segment is nobody's, or stands in memory; the numbers are of 64 bits.
-/
import Derived.Test.YtkpopaadkfgjaaaSegC
namespace Go.Proofs.Ytkpopaadkfgjaaa
open Go.RowKit
set_option linter.unusedVariables false
set_option linter.unusedSimpArgs false

theorem byte_num (v i : Nat) (hi : i < 8) : IntKind.u8.wrap ((v : Int) / 2 ^ (8 * i)) = (wb v i : Nat) := by
  have e : (v : Int) / 2 ^ (8 * i) = ((v / 256 ^ i : Nat) : Int) := by
    have e2 : (2 : Nat) ^ (8 * i) = 256 ^ i := by rw [Nat.pow_mul]
    rw [← e2]
    simp
  rw [e]
  unfold wb
  generalize v / 256 ^ i = q
  rw [IntKind.wrap_u8]
  omega
/-- The closure of Store: one byte of the word. -/
theorem store1_at (v i : Nat) (hi : i < 8) (hv : v < 18446744073709551616) (V D o : Nat) (w : World) (u : Value)
    (hV : w.cell? ⟨V, 0, none⟩ = some (.int .u64 v)) (hd : w.cell? ⟨D, o, none⟩ = some u) (hf : w.frozen? ⟨D, o, none⟩ = false) :
    Calls Try.prog 64 #[.pointer (some ⟨D, o, none⟩), .int .u64 (8 * i : Nat), .pointer (some ⟨V, 0, none⟩)] w fun e w' => e = .returned (.tuple #[]) ∧ w.setCell ⟨D, o, none⟩ (.int .u8 (wb v i)) = w' := by
  have hl := byte_num v i hi
  go_enter Try.func64, Try.ntmps64
  go_wp2
  go_end0
  exact ⟨rfl, rfl⟩

/-- The bytes behind k stores of the word v at off. -/
def mixN (ws : List Nat) (off v k j : Nat) : Nat := if off ≤ j ∧ j < off + k then wb v (j - off) else byteN ws j
theorem mix_zero (ws : List Nat) (off v n : Nat) : rowOf (mixN ws off v 0) n = rowOf (byteN ws) n :=
  rowOf_congr fun j _ => by unfold mixN; rw [if_neg (by omega)]
theorem mix_next (ws : List Nat) (off v k n : Nat) : (rowOf (mixN ws off v k) n).setIfInBounds (off + k) (.int .u8 (wb v k : Nat)) = rowOf (mixN ws off v (k + 1)) n := by
  rw [rowOf_set]
  refine rowOf_congr fun j _ => ?_
  unfold mixN
  by_cases e : j = off + k
  · subst e
    rw [if_pos rfl, if_pos (by omega), show off + k - off = k by omega]
  · rw [if_neg e]
    by_cases e2 : off ≤ j ∧ j < off + k
    · rw [if_pos e2, if_pos (by omega)]
    · rw [if_neg e2, if_neg (by omega)]
theorem mix_all (ws : List Nat) (off v : Nat) (h : stands ws off) : rowOf (mixN ws off v 8) (8 * ws.length) = rowOf (byteN (put ws off v)) (8 * (put ws off v).length) := by
  rw [put_len]
  refine rowOf_congr fun j hj => ?_
  rw [byteN_put ws off v j h hj]
  rfl
/-- Behind k bytes: they are stored, all else is as it was. -/
structure StoreRel (w : World) (D : Nat) (ws : List Nat) (off v k : Nat) (wr : World) : Prop where
  grown : w.grownBy wr (some D)
  data : wr.heap[D]? = some (.cells (rowOf (mixN ws off v k) (8 * ws.length)) 5 (0, 0))
theorem StoreRel.next {w wr : World} {D : Nat} {ws : List Nat} {off v k : Nat} (R : StoreRel w D ws off v k wr) :
    StoreRel w D ws off v (k + 1) (wr.setCell ⟨D, off + k, none⟩ (.int .u8 (wb v k : Nat))) where
  grown := grown_trans R.grown (grown_set _ _ _ _)
  data := by rw [heap_setCell_same R.data, mix_next]

set_option maxHeartbeats 400000 in
theorem each_store {w : World} {B D V : Nat} {ws : List Nat} (h : IsSeg w B D ws) (off v : Nat) (ho : stands ws off) (hv : v < 18446744073709551616) (hVB : V ≠ B) (hVD : V ≠ D)
    (hV : w.heap[V]? = some (.cells #[.int .u64 v] 30 (0, 0))) :
    Calls Try.prog 63 #[.pointer (some ⟨B, 0, none⟩), .int .u64 off, .func (.func 64) #[] #[.pointer (some ⟨V, 0, none⟩)]] w
      fun e w' => e = .returned (.tuple #[]) ∧ StoreRel w D ws off v 8 w' := by
  have h1 := h.hd
  have h2 := h.most
  have h4 : off % 8 = 0 := ho.1
  have h6 : off + 8 ≤ 8 * ws.length := by have := ho.2; omega
  have H4 := Lib.hid h4
  clear h4
  have R0 : StoreRel w D ws off v 0 w := ⟨grown_refl _ _, by rw [mix_zero]; exact h.data⟩
  have hVl := lt_of_block hV
  go_enter Try.func63, Try.ntmps63
  go_wp2
  simp only [eight_less]
  go_loopw [7, 18] (fun _ i wr => ∃ k : Nat, k ≤ 8 ∧ i = .int .i64 k ∧ StoreRel w D ws off v k wr) (fun _ i _ => 8 - (intOf i).toNat)
  case atStart => exact ⟨0, Nat.zero_le _, rfl, R0⟩
  case round =>
    obtain ⟨k, hk, rfl, R⟩ := hrel
    clear R0 h1
    by_cases hlt : k < 8
    · have hVr : wr.cell? ⟨V, 0, none⟩ = some (.int .u64 v) := cell_of_one ((R.grown.block V hVl (by simpa using hVD)).trans hV)
      have hb := cell_of_row R.data (off + k) (by omega)
      go_wp2_with (go_at_call 64; refine (store1_at v k hlt hv V D (off + k) _ _ hVr hb (free_of_row R.data _)).mono ?_; rintro e w' ⟨rfl, rfl⟩)
      go_roundw
      case rel => exact ⟨k + 1, by omega, by go_num, R.next⟩
      case measure => simp [intOf]; omega
    · obtain rfl : k = 8 := by omega
      go_wp2
      go_end0
      exact ⟨rfl, R⟩

theorem store_no {w : World} {p : Value} {ws : List Nat} (h : SegAt w p ws) (off v : Nat) (hlt : off < 18446744073709551616) (ho : ¬ stands ws off) :
    Calls Try.prog 41 #[p, .int .u64 off, .int .u64 v] w fun e w' => e = .returned (.int .i64 1) ∧ w.grownBy w' none := by
  have hd := decide_eq_false ho
  have h' : SegAt (w.alloc (.cells #[.int .u64 v] 30)) p ws := by
    rcases h with h | ⟨B, D, rfl, h⟩
    · exact .inl h
    · exact .inr ⟨B, D, rfl, h.later (World.grownBy_alloc _ _ _)⟩
  have hc := has_any h' off hlt
  rw [hd] at hc
  go_enter Try.func41, Try.ntmps41
  go_wp2_with (go_at_call 62; refine hc.mono ?_; rintro e w' ⟨rfl, rfl⟩)
  go_ret
  exact ⟨rfl, World.grownBy_alloc _ _ _⟩
theorem store_yes {w : World} {B D : Nat} {ws : List Nat} (h : IsSeg w B D ws) (off v : Nat) (hlt : off < 18446744073709551616) (hv : v < 18446744073709551616) (ho : stands ws off) :
    Calls Try.prog 41 #[.pointer (some ⟨B, 0, none⟩), .int .u64 off, .int .u64 v] w fun e w' => e = .returned (.int .i64 0) ∧ w.grownBy w' (some D) ∧ IsSeg w' B D (put ws off v) := by
  have hd := decide_eq_true ho
  have hs1 : IsSeg (w.alloc (.cells #[.int .u64 v] 30)) B D ws := h.later (World.grownBy_alloc _ _ _)
  have hc := has_any (.inr ⟨B, D, rfl, hs1⟩) off hlt
  rw [hd] at hc
  go_enter Try.func41, Try.ntmps41
  go_wp2_with (first | (go_at_call 62; refine hc.mono ?_; rintro e w' ⟨rfl, rfl⟩) | (go_at_call 63; refine (each_store hs1 off v ho hv (Nat.ne_of_gt h.ltB) (Nat.ne_of_gt h.ltD) (heap_alloc_new' _ _)).mono ?_; rintro e w1 ⟨rfl, R⟩))
  go_ret
  refine ⟨rfl, grown_trans (grown_any (World.grownBy_alloc _ _ _) _) R.grown, ?_⟩
  exact {
    head := by rw [put_len]; exact (R.grown.block B hs1.ltB (by simpa using h.ne)).trans hs1.head
    data := by rw [← mix_all ws off v ho]; exact R.data
    ne := h.ne
    words := put_lt h.words hv
    some1 := by rw [put_len]; exact h.some1
    most := by rw [put_len]; exact h.most }
/-- Store, wherever, in a segment. -/
theorem store_any {w : World} {B D : Nat} {ws : List Nat} (h : IsSeg w B D ws) (off v : Nat) (hlt : off < 18446744073709551616) (hv : v < 18446744073709551616) :
    Calls Try.prog 41 #[.pointer (some ⟨B, 0, none⟩), .int .u64 off, .int .u64 v] w fun e w' => e = .returned (.int .i64 (errW ws off : Nat)) ∧ w.grownBy w' (some D) ∧ IsSeg w' B D (put ws off v) := by
  unfold errW
  by_cases ho : stands ws off
  · rw [if_pos ho]; exact store_yes h off v hlt hv ho
  · rw [if_neg ho]
    refine (store_no (.inr ⟨B, D, rfl, h⟩) off v hlt ho).mono ?_
    rintro e w' ⟨rfl, hg⟩
    refine ⟨rfl, grown_any hg _, ?_⟩
    unfold put
    rw [if_neg ho]
    exact h.later hg
end Go.Proofs.Ytkpopaadkfgjaaa
