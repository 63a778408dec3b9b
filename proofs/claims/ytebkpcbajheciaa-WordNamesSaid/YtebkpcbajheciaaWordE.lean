/-
  Pack's contract: of 1 to 15 bytes the two words, the lowest byte first, and true; zeros and false of others; all that was there is as it was.
  No condition but that the string is one that may be.
-/
import Derived.Test.YtebkpcbajheciaaWordD
import Derived.Deep.LoopGhost
import Derived.LoopTactic
namespace Go.Proofs.Ytebkpcbajheciaa
open Go.RowKit
set_option linter.unusedVariables false
set_option linter.unusedSimpArgs false
theorem lay_low_at (i : Int) (k b x : Nat) (ei : i = k) (hi : k < 8) (hb : b < 256) (hx : x < 256 ^ k) (B : Nat) (w : World)
    (h0 : w.cell? ⟨B, 0, none⟩ = some (.int .u64 x)) (hf : w.frozen? ⟨B, 0, none⟩ = false) :
    Calls Try.prog 32 #[.int .i64 i, .int .u8 b, .pointer (some ⟨B, 0, none⟩)] w fun e w' => e = .returned (.tuple #[]) ∧ (w.setCell ⟨B, 0, none⟩ (.int .u64 ((x + b * 256 ^ k : Nat) : Int))).drew = w' := by
  subst ei; exact lay_low k b x hi hb hx B w h0 hf
theorem lay_high_at (i : Int) (k j b x : Nat) (ei : i = k) (hi : j < 8) (ej : k = 8 + j) (hb : b < 256) (hx : x < 256 ^ j) (B : Nat) (w : World)
    (h0 : w.cell? ⟨B, 1, none⟩ = some (.int .u64 x)) (hf : w.frozen? ⟨B, 1, none⟩ = false) :
    Calls Try.prog 32 #[.int .i64 i, .int .u8 b, .pointer (some ⟨B, 0, none⟩)] w fun e w' => e = .returned (.tuple #[]) ∧ (w.setCell ⟨B, 1, none⟩ (.int .u64 ((x + b * 256 ^ j : Nat) : Int))).drew = w' := by
  subst ei; exact lay_high k j b x hi ej hb hx B w h0 hf
set_option maxHeartbeats 400000 in
theorem pack_any (s : ByteArray) (h1 : 1 ≤ s.size) (h2 : s.size ≤ 15) (w : World) :
    Calls Try.prog 24 #[.string s] w fun e w' => e = .returned (.tuple #[.agg #[.int .u64 (loOf s (s.size + 1) : Nat), .int .u64 (hiOf s (s.size + 1) : Nat)], .bool true]) ∧ Below w.heap.size w w' := by
  have c1 : ((s.size : Int) == 0) = false := by rw [beq_eq_false_iff_ne]; omega
  have c3 : ¬ s = ByteArray.empty := by intro h; rw [h] at h1; exact absurd h1 (by decide)
  have c2 : ¬ (15 < (s.size : Int)) := by omega
  have R0 := PackRel.first w s (by omega)
  go_enter Try.func24, Try.ntmps24
  go_wp2_with (first | (go_at_call 32; refine (lay_first s.size (by omega) (w.heap.size + 1) _ (by go_cell) (by simp)).mono ?_; rintro e w' ⟨rfl, rfl⟩))
  go_loopw [24] (fun i wr => ∃ k : Nat, k ≤ s.size ∧ i = .int .i64 k ∧ PackRel w s k wr) (fun i _ => s.size - (intOf i).toNat)
  case atStart => exact ⟨0, Nat.zero_le _, rfl, R0⟩
  case round =>
    obtain ⟨k, hk, rfl, R⟩ := hrel
    clear R0
    by_cases hlt : k < s.size
    · have hb := s[k].toNat_lt
      rcases Nat.lt_or_ge (k + 1) 8 with h8 | h8
      · go_wp2_with (first | (go_at_call 32; refine (lay_low_at _ (k + 1) _ (loOf s (k + 1)) (by omega) h8 hb (lo_lt s (k + 1) (by omega) (by omega)) (w.heap.size + 1) _ R.lo R.flo).mono ?_; rintro e w' ⟨rfl, rfl⟩))
        go_roundw
        case rel => exact ⟨k + 1, by omega, by go_num, R.low hlt h8⟩
        case measure => simp [intOf]; omega
      · go_wp2_with (first | (go_at_call 32; refine (lay_high_at _ (k + 1) (k - 7) _ (hiOf s (k + 1)) (by omega) (by omega) (by omega) hb (hi_lt s (k + 1) (by omega)) (w.heap.size + 1) _ R.hi R.fhi).mono ?_; rintro e w' ⟨rfl, rfl⟩))
        go_roundw
        case rel => exact ⟨k + 1, by omega, by go_num, R.high hlt h8⟩
        case measure => simp [intOf]; omega
    · obtain rfl : k = s.size := by omega
      have q0 := R.lo
      have q1 := R.hi
      have q2 := R.r0
      have q3 := R.r1
      have q4 := R.g0
      have q5 := R.g1
      go_wp2
      exact bodyPost_ret (v := .tuple #[.agg #[.int .u64 (loOf s (s.size + 1) : Nat), .int .u64 (hiOf s (s.size + 1) : Nat)], .bool true]) (by simp [results, Try.results24, go_sem, q2, q3]) rfl ⟨rfl, (R.below.setCell (by simp) _).setCell (by simp) _⟩

theorem pack_not (s : ByteArray) (h : s.size = 0 ∨ 15 < s.size) (hm : s.size ≤ 9223372036854775807) (w : World) :
    Calls Try.prog 24 #[.string s] w fun e w' => e = .returned (.tuple #[.agg #[.int .u64 0, .int .u64 0], .bool false]) ∧ Below w.heap.size w w' := by
  have hb : Below w.heap.size w ((w.alloc (.cells #[.int .u64 0, .int .u64 0] 31)).alloc (.cells #[.int .u64 0, .int .u64 0] 31)) := ((Below.refl _ _).alloc (Nat.le_refl _) _).alloc (by simp) _
  rcases h with h | h
  · obtain rfl : s = ByteArray.empty := by
      cases s with
      | mk d => have : d = #[] := Array.eq_empty_of_size_eq_zero h; rw [this]; rfl
    go_enter Try.func24, Try.ntmps24
    go_wp2
    exact bodyPost_ret (v := .tuple #[.agg #[.int .u64 0, .int .u64 0], .bool false]) (by simp [results, Try.results24, go_sem]) rfl ⟨rfl, hb⟩
  · have c1 : ((s.size : Int) == 0) = false := by rw [beq_eq_false_iff_ne]; omega
    have c3 : ¬ s = ByteArray.empty := by intro h1; rw [h1] at h; exact absurd h (by decide)
    have c2 : 15 < (s.size : Int) := by omega
    go_enter Try.func24, Try.ntmps24
    go_wp2
    exact bodyPost_ret (v := .tuple #[.agg #[.int .u64 0, .int .u64 0], .bool false]) (by simp [results, Try.results24, go_sem]) rfl ⟨rfl, hb⟩

end Go.Proofs.Ytebkpcbajheciaa
