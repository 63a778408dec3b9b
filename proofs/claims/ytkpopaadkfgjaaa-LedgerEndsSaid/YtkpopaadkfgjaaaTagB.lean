/-
  Package tag: the contracts of Unpack, and of the plain answer Unpack.
  Conditions: the word is a number of 64 bits.
-/
import Derived.Test.YtkpopaadkfgjaaaTagA
namespace Go.Proofs.Ytkpopaadkfgjaaa
open Go.RowKit
set_option linter.unusedVariables false
set_option linter.unusedSimpArgs false

/-- what a word might say: its size, whether it is used, its owner -/
def usz (w : Nat) : Nat := w % 4294967296 - w % 2
def uus (w : Nat) : Bool := decide (w % 2 = 1)
def uow (w : Nat) : Nat := w / 4294967296
/-- is it a tag's word? -/
def mayW (w : Nat) : Prop := mayP (usz w) (uus w) (uow w : Nat)
instance (w : Nat) : Decidable (mayW w) := by unfold mayW; infer_instance
/-- the tag whose word it is, or the zero one -/
def tS (w : Nat) : Nat := if mayW w then usz w else 0
def tU (w : Nat) : Bool := if mayW w then uus w else false
def tO (w : Nat) : Nat := if mayW w then uow w else 0
theorem usz_and (w : Nat) (hw : w < 18446744073709551616) : bits .and .u64 (w : Int) 4294967294 = (usz w : Nat) := by
  rw [show (4294967294 : Int) = ((4294967294 : Nat) : Int) from rfl, u64_and_nat w 4294967294 hw (by decide)]
  congr 1
  have e : usz w = (w % 2 ^ 32) >>> 1 <<< 1 := by
    rw [Nat.shiftRight_eq_div_pow, Nat.shiftLeft_eq]
    unfold usz
    omega
  rw [e, show 4294967294 = (2 ^ 31 - 1) <<< 1 by decide]
  apply Nat.eq_of_testBit_eq
  intro i
  rw [Nat.testBit_and, Nat.testBit_shiftLeft, Nat.testBit_shiftLeft, Nat.testBit_two_pow_sub_one, Nat.testBit_shiftRight, Nat.testBit_mod_two_pow]
  by_cases h1 : i ≥ 1
  · rw [show 1 + (i - 1) = i by omega]
    by_cases h2 : i < 32
    · simp [h1, h2, show i - 1 < 31 by omega]
    · simp [h1, h2, show ¬ i - 1 < 31 by omega]
  · simp [h1]
theorem uus_and (w : Nat) (hw : w < 18446744073709551616) : bits .and .u64 (w : Int) 1 = (w % 2 : Nat) := by
  rw [show (1 : Int) = ((1 : Nat) : Int) from rfl, u64_and_nat w 1 hw (by decide), nat_mask1]
theorem uow_lt (w : Nat) (hw : w < 18446744073709551616) : uow w < 4294967296 := by unfold uow; omega
theorem uus_cases (w : Nat) : (w % 2 = 1 ∧ uus w = true) ∨ (w % 2 = 0 ∧ uus w = false) := by
  unfold uus
  rcases Nat.mod_two_eq_zero_or_one w with h | h
  · exact .inr ⟨h, by simp [h]⟩
  · exact .inl ⟨h, by simp [h]⟩
/-- two blocks of three cells, one behind the other, and what is made behind them -/
theorem tag_two {w w' : World} {a b c x y z : Value} {t : TypeId} (hg : ((w.alloc (.cells #[a, b, c] t)).alloc (.cells #[x, y, z] t)).grownBy w' none) :
    w'.heap[w.heap.size]? = some (.cells #[a, b, c] t (0, 0)) ∧ w'.heap[w.heap.size + 1]? = some (.cells #[x, y, z] t (0, 0)) := by
  have h1 : (w.alloc (.cells #[a, b, c] t)).heap[w.heap.size]? = some (.cells #[a, b, c] t (0, 0)) := heap_alloc_new' _ _
  have h2 := ((World.grownBy_alloc (w.alloc (.cells #[a, b, c] t)) (.cells #[x, y, z] t) none).block _ (lt_of_block h1) (by simp)).trans h1
  have h3 := heap_alloc_new' (w.alloc (.cells #[a, b, c] t)) (.cells #[x, y, z] t)
  rw [World.size_alloc] at h3
  exact ⟨(hg.block _ (lt_of_block h2) (by simp)).trans h2, (hg.block _ (lt_of_block h3) (by simp)).trans h3⟩
theorem tag_frozen {w : World} {b : Nat} {x y z : Value} {t : TypeId} (h : w.heap[b]? = some (.cells #[x, y, z] t (0, 0))) : w.frozen? ⟨b, 0, none⟩ = false ∧ w.frozen? ⟨b, 1, none⟩ = false ∧ w.frozen? ⟨b, 2, none⟩ = false := by
  exact ⟨by simp [World.frozen?, h], by simp [World.frozen?, h], by simp [World.frozen?, h]⟩
/-- a block of three cells, stored into -/
theorem tag_put {w : World} {b : Nat} {x y z x' y' z' : Value} {t : TypeId} (h : w.heap[b]? = some (.cells #[x, y, z] t (0, 0))) : (((w.setCell ⟨b, 0, none⟩ x').setCell ⟨b, 1, none⟩ y').setCell ⟨b, 2, none⟩ z').heap[b]? = some (.cells #[x', y', z'] t (0, 0)) := by
  rw [heap_setCell_same (heap_setCell_same (heap_setCell_same h x') y') z']; rfl
theorem tag_grown {w0 w : World} {b : Nat} {x' y' z' : Value} (h : w0.grownBy w none) (hb : w0.heap.size ≤ b) : w0.grownBy (((w.setCell ⟨b, 0, none⟩ x').setCell ⟨b, 1, none⟩ y').setCell ⟨b, 2, none⟩ z') none :=
  grown_new (grown_trans (grown_any h _) (grown_trans (grown_set _ _ _ _) (grown_trans (grown_set _ _ _ _) (grown_set _ _ _ _)))) hb
/-! ### The plain answer -/
theorem pack_unpack (w : Nat) (h : mayW w) : packN (usz w) (uus w) (uow w : Nat) = w := by
  unfold packN
  rw [if_pos (show mayP (usz w) (uus w) (uow w : Nat) from h)]
  rcases uus_cases w with ⟨h1, h2⟩ | ⟨h1, h2⟩ <;> rw [h2] <;> simp only [Int.toNat_natCast, if_true, if_false, Bool.false_eq_true] <;> unfold usz uow <;> omega
theorem unpack_may (w : Nat) (h : mayP (usz w) (uus w) (uow w % 16 : Nat)) : packN (usz w) (uus w) (uow w % 16 : Nat) = w ↔ mayW w := by
  constructor
  · intro e
    have e2 : uow w % 16 = uow w := by
      unfold packN at e
      rw [if_pos h] at e
      rcases uus_cases w with ⟨h1, h2⟩ | ⟨h1, h2⟩ <;> rw [h2] at e <;> simp only [Int.toNat_natCast, if_true, if_false, Bool.false_eq_true] at e <;> unfold usz uow at e <;> unfold uow <;> omega
    unfold mayW
    rw [← e2]
    exact h
  · intro hm
    have e2 : uow w % 16 = uow w := by
      have := hm
      unfold mayW mayP at this
      omega
    rw [e2]
    exact pack_unpack w hm
theorem may_of_w (w : Nat) (hm : mayW w) : uow w % 16 = uow w := by
  have := hm
  unfold mayW mayP at this
  omega
set_option maxHeartbeats 1000000 in
theorem rtunpack_core (w : Nat) (u : Bool) (c : Nat) (hw : w < 18446744073709551616) (hu : uus w = u) (hcm : w % 2 = c) (huc : ((c : Int) == 1) = u) (W : World) :
    Calls Try.prog 74 #[.int .u64 w] W fun e w' => e = .returned (.tuple #[.agg #[.int .u64 (tS w : Nat), .bool (tU w), .int .i64 (tO w : Nat)], .bool (decide (mayW w))]) ∧ W.grownBy w' none := by
  have hc := fun W => rtmay_any (usz w) (uus w) (uow w % 16 : Nat) W
  have hp := fun W => rtpack_any (usz w) (uus w) (uow w % 16 : Nat) W
  have hiff := unpack_may w
  have hmw := may_of_w w
  rw [hu] at hc hp hiff
  obtain ⟨low, hlow⟩ : ∃ x, w % 4294967296 = x := ⟨_, rfl⟩
  have e1 : (w : Int) % 4294967296 = (low : Nat) := by omega
  have e2 : (low : Int) % 2 = (c : Nat) := by omega
  have e3 : IntKind.u64.wrap ((low : Int) - (c : Int)) = (usz w : Nat) := by rw [IntKind.wrap_u64]; unfold usz; omega
  obtain ⟨o, ho⟩ : ∃ x, uow w % 16 = x := ⟨_, rfl⟩
  obtain ⟨q, hq⟩ : ∃ x, uow w = x := ⟨_, rfl⟩
  have e4 : (w : Int) / 4294967296 = (q : Nat) := by rw [← hq]; unfold uow; omega
  have e5 : (q : Int) % 16 = (o : Nat) := by omega
  have e6 : o < 16 := by omega
  rw [ho] at hc hp hiff hmw
  by_cases h : mayW w
  · have hm : mayP (usz w) u (o : Nat) := by
      have := h
      unfold mayW at this
      rw [hu, ← hmw h] at this
      exact this
    rw [decide_eq_true hm] at hc
    rw [(hiff hm).2 h] at hp
    rw [decide_eq_true h, show tS w = usz w from if_pos h, show tU w = uus w from if_pos h, show tO w = uow w from if_pos h, hu, ← hmw h]
    clear h hiff hmw hm ho hlow hq
    go_enter Try.func74, Try.ntmps74
    go_wp2_with (first | (go_at_call 69; (with_reducible refine (hc _).mono ?_); rintro e w1 ⟨rfl, hg1⟩; obtain ⟨hb0, hb1⟩ := tag_two hg1; obtain ⟨c0, c1, c2⟩ := tag_cells hb1; have HB := Lib.hid hb1; clear hb0 hb1) | (go_at_call 71; (with_reducible refine (hp _).mono ?_); rintro e w2 ⟨rfl, hg2⟩; obtain ⟨hb0, hb1⟩ := tag_two (grown_trans hg1 hg2); obtain ⟨c0, c1, c2⟩ := tag_cells hb1; obtain ⟨d0, d1, d2⟩ := tag_cells hb0; obtain ⟨f0, f1, f2⟩ := tag_frozen hb0; have HB := Lib.hid hb0; clear hb0 hb1))
    have hb := tag_put HB.out (x' := .int .u64 (usz w : Nat)) (y' := .bool u) (z' := .int .i64 (o : Nat))
    obtain ⟨k0, k1, k2⟩ := tag_cells hb
    refine bodyPost_ret (v := .tuple #[.agg #[.int .u64 (usz w : Nat), .bool u, .int .i64 (o : Nat)], .bool true]) (by simp [results, Try.results74, go_sem, k0, k1, k2]) rfl ?_
    exact ⟨rfl, tag_grown (grown_trans (World.grownBy_alloc _ _ _) (grown_trans (World.grownBy_alloc _ _ _) (grown_trans hg1 hg2))) (Nat.le_refl _)⟩
  · rw [decide_eq_false h, show tS w = 0 from if_neg h, show tU w = false from if_neg h, show tO w = 0 from if_neg h]
    by_cases hm : mayP (usz w) u (o : Nat)
    · rw [decide_eq_true hm] at hc
      have hne : packN (usz w) u (o : Nat) ≠ w := fun e => h ((hiff hm).1 e)
      obtain ⟨x, hx⟩ : ∃ x, packN (usz w) u (o : Nat) = x := ⟨_, rfl⟩
      rw [hx] at hp hne
      have hne' : ((x : Int) == (w : Int)) = false := by rw [beq_eq_false_iff_ne]; omega
      clear h hiff hmw hm ho hlow hq hx
      go_enter Try.func74, Try.ntmps74
      go_wp2_with (first | (go_at_call 69; (with_reducible refine (hc _).mono ?_); rintro e w1 ⟨rfl, hg1⟩; obtain ⟨hb0, hb1⟩ := tag_two hg1; obtain ⟨c0, c1, c2⟩ := tag_cells hb1; have HB := Lib.hid hb1; clear hb0 hb1) | (go_at_call 71; (with_reducible refine (hp _).mono ?_); rintro e w2 ⟨rfl, hg2⟩; obtain ⟨hb0, hb1⟩ := tag_two (grown_trans hg1 hg2); obtain ⟨c0, c1, c2⟩ := tag_cells hb1; obtain ⟨d0, d1, d2⟩ := tag_cells hb0; obtain ⟨f0, f1, f2⟩ := tag_frozen hb0; have HB := Lib.hid hb0; clear hb0 hb1))
      have hb := tag_put HB.out (x' := .int .u64 0) (y' := .bool false) (z' := .int .i64 0)
      obtain ⟨k0, k1, k2⟩ := tag_cells hb
      refine bodyPost_ret (v := .tuple #[.agg #[.int .u64 0, .bool false, .int .i64 0], .bool false]) (by simp [results, Try.results74, go_sem, k0, k1, k2]) rfl ?_
      exact ⟨rfl, tag_grown (grown_trans (World.grownBy_alloc _ _ _) (grown_trans (World.grownBy_alloc _ _ _) (grown_trans hg1 hg2))) (Nat.le_refl _)⟩
    · rw [decide_eq_false hm] at hc
      clear h hiff hmw hm ho hlow hq
      go_enter Try.func74, Try.ntmps74
      go_wp2_with (first | (go_at_call 69; (with_reducible refine (hc _).mono ?_); rintro e w1 ⟨rfl, hg1⟩; obtain ⟨hb0, hb1⟩ := tag_two hg1; obtain ⟨d0, d1, d2⟩ := tag_cells hb0; obtain ⟨f0, f1, f2⟩ := tag_frozen hb0; have HB := Lib.hid hb0; clear hb0 hb1))
      have hb := tag_put HB.out (x' := .int .u64 0) (y' := .bool false) (z' := .int .i64 0)
      obtain ⟨k0, k1, k2⟩ := tag_cells hb
      refine bodyPost_ret (v := .tuple #[.agg #[.int .u64 0, .bool false, .int .i64 0], .bool false]) (by simp [results, Try.results74, go_sem, k0, k1, k2]) rfl ?_
      exact ⟨rfl, tag_grown (grown_trans (World.grownBy_alloc _ _ _) (grown_trans (World.grownBy_alloc _ _ _) hg1)) (Nat.le_refl _)⟩
theorem rtunpack_any (w : Nat) (hw : w < 18446744073709551616) (W : World) :
    Calls Try.prog 74 #[.int .u64 w] W fun e w' => e = .returned (.tuple #[.agg #[.int .u64 (tS w : Nat), .bool (tU w), .int .i64 (tO w : Nat)], .bool (decide (mayW w))]) ∧ W.grownBy w' none := by
  rcases uus_cases w with ⟨h1, h2⟩ | ⟨h1, h2⟩
  · exact rtunpack_core w true 1 hw h2 h1 (by decide) W
  · exact rtunpack_core w false 0 hw h2 h1 (by decide) W
end Go.Proofs.Ytkpopaadkfgjaaa
