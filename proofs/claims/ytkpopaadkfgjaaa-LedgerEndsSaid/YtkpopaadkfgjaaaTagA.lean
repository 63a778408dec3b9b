/-
  Package tag: the contracts of May, Pack, Unpack and last, of the plain answers May, Pack and Unpack, and of 'made'.
  Conditions: a size is a number of 64 bits, an owner an int.
-/
import Derived.Test.YtkpopaadkfgjaaaLHead
import Derived.Laws.StructEq
import Derived.Laws.Bits64
import Derived.Test.YtkpopaadkfgjaaaLWord
namespace Go.Proofs.Ytkpopaadkfgjaaa
open Go.RowKit
set_option linter.unusedVariables false
set_option linter.unusedSimpArgs false

/-- may a tag be? -/
def mayP (s : Nat) (u : Bool) (o : Int) : Prop := s % 16 = 0 ∧ 48 ≤ s ∧ s ≤ 1048576 ∧ 0 ≤ o ∧ o ≤ 8 ∧ (u = true ∨ o = 0)
instance (s : Nat) (u : Bool) (o : Int) : Decidable (mayP s u o) := by unfold mayP; infer_instance
theorem may_used (s : Nat) (o : Int) : mayP s true o ↔ s % 16 = 0 ∧ 48 ≤ s ∧ s ≤ 1048576 ∧ 0 ≤ o ∧ o ≤ 8 := by unfold mayP; simp
theorem may_free (s : Nat) (o : Int) : mayP s false o ↔ s % 16 = 0 ∧ 48 ≤ s ∧ s ≤ 1048576 ∧ o = 0 := by
  unfold mayP
  simp only [Bool.false_eq_true, false_or]
  omega
set_option maxHeartbeats 1000000 in
theorem rtmay_any (s : Nat) (u : Bool) (o : Int) (w : World) :
    Calls Try.prog 69 #[.agg #[.int .u64 s, .bool u, .int .i64 o]] w fun e w' => e = .returned (.bool (decide (mayP s u o))) ∧ w.grownBy w' none := by
  have hg : w.grownBy (w.alloc (.cells #[.int .u64 s, .bool u, .int .i64 o] 78)) none := World.grownBy_alloc _ _ _
  by_cases h0 : (s : Int) % 16 = 0
  · by_cases h1 : 48 ≤ (s : Int)
    · by_cases h2 : (s : Int) ≤ 1048576
      · by_cases h3 : 0 ≤ o
        · by_cases h4 : o ≤ 8
          · cases u
            · rw [show decide (mayP s false o) = (o == 0) by rw [Bool.eq_iff_iff, decide_eq_true_iff, beq_iff_eq, may_free]; omega]
              go_enter Try.func69, Try.ntmps69
              go_wp2
              go_ret
              exact ⟨rfl, hg⟩
            · rw [decide_eq_true (show mayP s true o by rw [may_used]; omega)]
              go_enter Try.func69, Try.ntmps69
              go_wp2
              go_ret
              exact ⟨rfl, hg⟩
          · rw [decide_eq_false (show ¬ mayP s u o by unfold mayP; omega)]
            go_enter Try.func69, Try.ntmps69
            go_wp2
            go_ret
            exact ⟨rfl, hg⟩
        · rw [decide_eq_false (show ¬ mayP s u o by unfold mayP; omega)]
          go_enter Try.func69, Try.ntmps69
          go_wp2
          go_ret
          exact ⟨rfl, hg⟩
      · rw [decide_eq_false (show ¬ mayP s u o by unfold mayP; omega)]
        go_enter Try.func69, Try.ntmps69
        go_wp2
        go_ret
        exact ⟨rfl, hg⟩
    · rw [decide_eq_false (show ¬ mayP s u o by unfold mayP; omega)]
      go_enter Try.func69, Try.ntmps69
      go_wp2
      go_ret
      exact ⟨rfl, hg⟩
  · rw [decide_eq_false (show ¬ mayP s u o by unfold mayP; omega)]
    go_enter Try.func69, Try.ntmps69
    go_wp2
    go_ret
    exact ⟨rfl, hg⟩
/-- a struct of three cells in a block that is told -/
theorem tag_cells {w : World} {b : Nat} {x y z : Value} {t : TypeId} (h : w.heap[b]? = some (.cells #[x, y, z] t (0, 0))) : w.cell? ⟨b, 0, none⟩ = some x ∧ w.cell? ⟨b, 1, none⟩ = some y ∧ w.cell? ⟨b, 2, none⟩ = some z := by
  exact ⟨by simp [World.cell?, h], by simp [World.cell?, h], by simp [World.cell?, h]⟩
/-- a tag's word -/
def packN (s : Nat) (u : Bool) (o : Int) : Nat := if mayP s u o then o.toNat * 4294967296 + s + (if u then 1 else 0) else 0
theorem or_low (a b : Nat) (hb : b < 4294967296) : a * 4294967296 ||| b = a * 4294967296 + b := by
  have := Nat.two_pow_add_eq_or_of_lt (i := 32) (b := b) (by simpa using hb) a
  rw [Nat.mul_comm a, show (4294967296 : Nat) = 2 ^ 32 by decide, this]
theorem or_one (a : Nat) (h : a % 2 = 0) : a ||| 1 = a + 1 := by
  have := Nat.two_pow_add_eq_or_of_lt (i := 1) (b := 1) (by decide) (a / 2)
  rw [show 2 ^ 1 * (a / 2) = a by omega] at this
  exact this.symm
theorem packN_even (s : Nat) (o : Nat) (hs : s % 16 = 0) : (o * 4294967296 + s) % 2 = 0 := by omega
theorem pack_or (m s : Nat) (hm : m ≤ 8) (hs : s < 4294967296) : bits .or .u64 ((m : Int) * 4294967296) (s : Int) = ((m * 4294967296 + s : Nat) : Int) := by
  rw [show (m : Int) * 4294967296 = ((m * 4294967296 : Nat) : Int) by omega, u64_or_nat _ _ (by omega) (by omega), or_low _ _ hs]
theorem pack_one (q : Nat) (hq : q % 2 = 0) (h : q < 18446744073709551616) : bits .or .u64 (q : Int) 1 = ((q + 1 : Nat) : Int) := by
  rw [show (1 : Int) = ((1 : Nat) : Int) from rfl, u64_or_nat _ _ h (by decide), or_one _ hq]
set_option maxHeartbeats 1000000 in
theorem rtpack_any (s : Nat) (u : Bool) (o : Int) (w : World) :
    Calls Try.prog 71 #[.agg #[.int .u64 s, .bool u, .int .i64 o]] w fun e w' => e = .returned (.int .u64 (packN s u o : Nat)) ∧ w.grownBy w' none := by
  have hc := fun w => rtmay_any s u o w
  have hg : w.grownBy (w.alloc (.cells #[.int .u64 s, .bool u, .int .i64 o] 78)) none := World.grownBy_alloc _ _ _
  have hbox : (w.alloc (.cells #[.int .u64 s, .bool u, .int .i64 o] 78)).heap[w.heap.size]? = some (.cells #[.int .u64 s, .bool u, .int .i64 o] 78 (0, 0)) := heap_alloc_new' _ _
  by_cases h : mayP s u o
  · rw [decide_eq_true h] at hc
    unfold packN
    rw [if_pos h]
    have hm := h
    unfold mayP at hm
    obtain ⟨m, rfl⟩ := Int.eq_ofNat_of_zero_le hm.2.2.2.1
    simp only [Int.toNat_natCast]
    have hm8 : m ≤ 8 := by omega
    have hs : s ≤ 1048576 := hm.2.2.1
    clear h hm
    cases u
    · go_enter Try.func71, Try.ntmps71
      go_wp2_with (go_at_call 69; (with_reducible refine (hc _).mono ?_); rintro e w1 ⟨rfl, hg1⟩; have hb := (hg1.block _ (lt_of_block hbox) (by simp)).trans hbox; obtain ⟨c0, c1, c2⟩ := tag_cells hb; have HB := Lib.hid hb; clear hb)
      go_ret
      exact ⟨ret_int' (by first | omega | (simp; omega)), grown_trans hg hg1⟩
    · go_enter Try.func71, Try.ntmps71
      go_wp2_with (go_at_call 69; (with_reducible refine (hc _).mono ?_); rintro e w1 ⟨rfl, hg1⟩; have hb := (hg1.block _ (lt_of_block hbox) (by simp)).trans hbox; obtain ⟨c0, c1, c2⟩ := tag_cells hb; have HB := Lib.hid hb; clear hb)
      go_ret
      exact ⟨ret_int' (by first | omega | (simp; omega)), grown_trans hg hg1⟩
  · rw [decide_eq_false h] at hc
    unfold packN
    rw [if_neg h]
    clear h
    go_enter Try.func71, Try.ntmps71
    go_wp2_with (go_at_call 69; (with_reducible refine (hc _).mono ?_); rintro e w1 ⟨rfl, hg1⟩)
    go_ret
    exact ⟨rfl, grown_trans hg hg1⟩
end Go.Proofs.Ytkpopaadkfgjaaa
