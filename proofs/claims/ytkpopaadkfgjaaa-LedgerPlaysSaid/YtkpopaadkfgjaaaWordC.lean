/-
  Package word's Pack: bytes as a number, the lowest first (leOf), and what its closure does to one of the two words.
  Conditions: the byte's place is 0 to 15; the word's bytes from that place on are still 0.
-/
import Derived.Test.YtkpopaadkfgjaaaWordB
import Derived.RegionTactic
import Derived.ChangeAlike
import Derived.BigRegion
namespace Go.Proofs.Ytkpopaadkfgjaaa
open Go.RowKit
set_option linter.unusedVariables false
set_option linter.unusedSimpArgs false

/-- bytes as a number, the lowest first -/
def leOf : List UInt8 → Nat
  | [] => 0
  | b :: r => b.toNat + 256 * leOf r
theorem leOf_lt : ∀ l : List UInt8, leOf l < 256 ^ l.length
  | [] => by simp [leOf]
  | b :: r => by
    have := leOf_lt r
    have hb := b.toNat_lt
    simp only [leOf, List.length_cons, Nat.pow_succ]
    omega
theorem leOf_snoc (b : UInt8) : ∀ l : List UInt8, leOf (l ++ [b]) = leOf l + b.toNat * 256 ^ l.length
  | [] => by simp [leOf]
  | c :: r => by
    have := leOf_snoc b r
    simp only [List.cons_append, leOf, this, List.length_cons, Nat.pow_succ]
    rw [Nat.mul_add]
    have : 256 * (b.toNat * 256 ^ r.length) = b.toNat * (256 ^ r.length * 256) := by
      rw [Nat.mul_comm 256, Nat.mul_assoc]
    omega
theorem or_join (x b i : Nat) (hi : i < 8) (hb : b < 256) (hx : x < 256 ^ i) : x ||| b * 2 ^ (8 * i) = x + b * 256 ^ i := by
  have e : (2 : Nat) ^ (8 * i) = 256 ^ i := by rw [Nat.pow_mul]
  rw [e, Nat.or_comm]
  have h := nat_join (8 * i) (b * 256 ^ i) x (by rw [e]; exact Nat.mul_mod_left _ _) (by rw [e]; exact hx)
  rw [h, Nat.add_comm]
theorem pow_le (i : Nat) (hi : i < 8) : 256 ^ i ≤ 72057594037927936 := by
  have : (256 : Nat) ^ i ≤ 256 ^ 7 := Nat.pow_le_pow_right (by decide) (by omega)
  have e : (256 : Nat) ^ 7 = 72057594037927936 := by decide
  omega
theorem lay_num (x b i : Nat) (hi : i < 8) (hb : b < 256) (hx : x < 256 ^ i) :
    bits .or .u64 (x : Int) (IntKind.u64.wrap ((b : Int) * 2 ^ (8 * i))) = ((x + b * 256 ^ i : Nat) : Int) := by
  have hp := pow_le i hi
  have hmul : b * 256 ^ i ≤ 255 * 256 ^ i := Nat.mul_le_mul_right _ (by omega)
  have e : (b : Int) * 2 ^ (8 * i) = ((b * 2 ^ (8 * i) : Nat) : Int) := by simp
  have e2 : (2 : Nat) ^ (8 * i) = 256 ^ i := by rw [Nat.pow_mul]
  rw [e, IntWalk.u64_in _ (by rw [e2]; omega), u64_or_nat x _ (by omega) (by rw [e2]; omega), or_join x b i hi hb hx]
end Go.Proofs.Ytkpopaadkfgjaaa
