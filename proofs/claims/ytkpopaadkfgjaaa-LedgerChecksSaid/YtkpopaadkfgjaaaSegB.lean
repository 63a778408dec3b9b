/-
  Package seg: the contracts of Size and has, and of the closure that Load hands to each.
  Conditions: the segment is nobody's, or stands in memory.
-/
import Derived.Test.YtkpopaadkfgjaaaSegA
import Derived.Laws.BitsAll
import Derived.IntWalk
import Derived.BigGuard
import Derived.RegionTactic
import Derived.ChangeAlike
import Derived.BigRegion
namespace Go.Proofs.Ytkpopaadkfgjaaa
open Go.RowKit
set_option linter.unusedVariables false
set_option linter.unusedSimpArgs false

/-! ### A word's bytes, put together -/
theorem or_join' (x b i : Nat) (hi : i < 8) (hb : b < 256) (hx : x < 256 ^ i) : x ||| b * 2 ^ (8 * i) = x + b * 256 ^ i := by
  have e : (2 : Nat) ^ (8 * i) = 256 ^ i := by rw [Nat.pow_mul]
  rw [e, Nat.or_comm]
  have h := nat_join (8 * i) (b * 256 ^ i) x (by rw [e]; exact Nat.mul_mod_left _ _) (by rw [e]; exact hx)
  rw [h, Nat.add_comm]
theorem pow_le' (i : Nat) (hi : i < 8) : 256 ^ i ≤ 72057594037927936 := by
  have : (256 : Nat) ^ i ≤ 256 ^ 7 := Nat.pow_le_pow_right (by decide) (by omega)
  have e : (256 : Nat) ^ 7 = 72057594037927936 := by decide
  omega
theorem lay_num' (x b i : Nat) (hi : i < 8) (hb : b < 256) (hx : x < 256 ^ i) :
    bits .or .u64 (x : Int) (IntKind.u64.wrap ((b : Int) * 2 ^ (8 * i))) = ((x + b * 256 ^ i : Nat) : Int) := by
  have hp := pow_le' i hi
  have hmul : b * 256 ^ i ≤ 255 * 256 ^ i := Nat.mul_le_mul_right _ (by omega)
  have e : (b : Int) * 2 ^ (8 * i) = ((b * 2 ^ (8 * i) : Nat) : Int) := by simp
  have e2 : (2 : Nat) ^ (8 * i) = 256 ^ i := by rw [Nat.pow_mul]
  rw [e, IntWalk.u64_in _ (by rw [e2]; omega), u64_or_nat x _ (by omega) (by rw [e2]; omega), or_join' x b i hi hb hx]

theorem size_any {w : World} {v : Value} {ws : List Nat} (h : SegAt w v ws) :
    Calls Try.prog 39 #[v] w fun e w' => e = .returned (.int .u64 (8 * ws.length : Nat)) ∧ w = w' := by
  rcases h with ⟨rfl, rfl⟩ | ⟨B, D, rfl, h⟩
  · go_enter Try.func39, Try.ntmps39
    go_wp2
    go_ret
    exact ⟨rfl, rfl⟩
  · have h1 := h.hd
    have h2 := h.most
    go_enter Try.func39, Try.ntmps39
    go_wp2
    go_ret
    exact ⟨ret_int' (by omega), rfl⟩

theorem has_any {w : World} {v : Value} {ws : List Nat} (h : SegAt w v ws) (off : Nat) (ho : off < 18446744073709551616) :
    Calls Try.prog 62 #[v, .int .u64 off] w fun e w' => e = .returned (.bool (decide (stands ws off))) ∧ w = w' := by
  by_cases h8 : (off : Int) % 8 = 0
  · have hd : decide (stands ws off) = decide ((off : Int) < (8 * ws.length : Nat)) := by
      rw [decide_eq_decide]
      unfold stands
      omega
    rw [hd]
    go_enter Try.func62, Try.ntmps62
    go_wp2_with (go_at_call 39; refine (size_any h).mono ?_; rintro e w' ⟨rfl, rfl⟩)
    go_ret
    exact ⟨rfl, rfl⟩
  · have hd : decide (stands ws off) = false := decide_eq_false (by unfold stands; omega)
    rw [hd]
    go_enter Try.func62, Try.ntmps62
    go_wp2
    go_ret
    exact ⟨rfl, rfl⟩

/-- the lowest k bytes of a word, as a number -/
def low (x k : Nat) : Nat := x % 256 ^ k
theorem low_step (x k : Nat) : low x (k + 1) = low x k + wb x k * 256 ^ k := mod_step x k
theorem low_lt (x k : Nat) : low x k < 256 ^ k := Nat.mod_lt _ (Nat.pow_pos (by decide))
theorem low_zero (x : Nat) : low x 0 = 0 := by simp [low, Nat.mod_one]
theorem low_all (x : Nat) (h : x < 18446744073709551616) : low x 8 = x := all_eight x h
/-- The closure of Load: one byte more of the word. -/
theorem load1_at (x i : Nat) (hi : i < 8) (V D o : Nat) (w : World)
    (hV : w.cell? ⟨V, 0, none⟩ = some (.int .u64 (low x i))) (hf : w.frozen? ⟨V, 0, none⟩ = false) (hd : w.cell? ⟨D, o, none⟩ = some (.int .u8 (wb x i))) :
    Calls Try.prog 79 #[.pointer (some ⟨D, o, none⟩), .int .u64 (8 * i : Nat), .pointer (some ⟨V, 0, none⟩)] w fun e w' => e = .returned (.tuple #[]) ∧ (w.setCell ⟨V, 0, none⟩ (.int .u64 (low x (i + 1)))).drew = w' := by
  have hl := lay_num' (low x i) (wb x i) i hi (wb_lt _ _) (low_lt _ _)
  rw [← low_step] at hl
  have hb := wb_lt x i
  go_enter Try.func79, Try.ntmps79
  go_wp2
  go_region
  all_goals go_end0
  all_goals exact ⟨rfl, rfl⟩
end Go.Proofs.Ytkpopaadkfgjaaa
