/-
  Texts of one layer, one behind the other: memory, contracts of the functions, and what follows of them.
  Conditions: as each theorem says.
-/
import Derived.Test.YtcngmkfpbcemjaaGreatLHeb
import Derived.Laws.StructEq
import Derived.Laws.Bits64
import Derived.Test.YtcngmkfpbcemjaaGreatLWoa
set_option linter.unusedVariables false
set_option linter.unusedSimpArgs false
namespace Go.Proofs.YtcngmkfpbcemjaaGreat
open Go.RowKit
def mayP (s : Nat) (u : Bool) (o : Int) : Prop := s % 16 = 0 ∧ 48 ≤ s ∧ s ≤ 1048576 ∧ 0 ≤ o ∧ o ≤ 8 ∧ (u = true ∨ o = 0)
instance (s : Nat) (u : Bool) (o : Int) : Decidable (mayP s u o) := by unfold mayP; infer_instance
theorem may_used (s : Nat) (o : Int) : mayP s true o ↔ s % 16 = 0 ∧ 48 ≤ s ∧ s ≤ 1048576 ∧ 0 ≤ o ∧ o ≤ 8 := by unfold mayP; simp
theorem may_free (s : Nat) (o : Int) : mayP s false o ↔ s % 16 = 0 ∧ 48 ≤ s ∧ s ≤ 1048576 ∧ o = 0 := by
  unfold mayP
  simp only [Bool.false_eq_true, false_or]
  omega
set_option maxHeartbeats 1000000 in
theorem tmay_any (s : Nat) (u : Bool) (o : Int) (w : World) :
    Calls Tryz.prog 70 #[.agg #[.int .u64 s, .bool u, .int .i64 o]] w fun e w' => e = .returned (.bool (decide (mayP s u o))) ∧ w.grownBy w' none := by
  have hg : w.grownBy (w.alloc (.cells #[.int .u64 s, .bool u, .int .i64 o] 54)) none := World.grownBy_alloc _ _ _
  by_cases h0 : (s : Int) % 16 = 0
  · by_cases h1 : (s : Int) < 48
    · rw [decide_eq_false (show ¬ mayP s u o by unfold mayP; omega)]
      go_enter Tryz.func70, Tryz.ntmps70
      go_wp2
      go_ret
      exact ⟨rfl, hg⟩
    · by_cases h2 : 1048576 < (s : Int)
      · rw [decide_eq_false (show ¬ mayP s u o by unfold mayP; omega)]
        go_enter Tryz.func70, Tryz.ntmps70
        go_wp2
        go_ret
        exact ⟨rfl, hg⟩
      · cases u
        · rw [show decide (mayP s false o) = (o == 0) by rw [Bool.eq_iff_iff, decide_eq_true_iff, beq_iff_eq, may_free]; omega]
          go_enter Tryz.func70, Tryz.ntmps70
          go_wp2
          go_ret
          exact ⟨rfl, hg⟩
        · by_cases h3 : 0 ≤ o
          · rw [show decide (mayP s true o) = decide (o ≤ 8) by rw [decide_eq_decide, may_used]; omega]
            go_enter Tryz.func70, Tryz.ntmps70
            go_wp2
            go_ret
            exact ⟨rfl, hg⟩
          · rw [decide_eq_false (show ¬ mayP s true o by rw [may_used]; omega)]
            go_enter Tryz.func70, Tryz.ntmps70
            go_wp2
            go_ret
            exact ⟨rfl, hg⟩
  · rw [decide_eq_false (show ¬ mayP s u o by unfold mayP; omega)]
    go_enter Tryz.func70, Tryz.ntmps70
    go_wp2
    go_ret
    exact ⟨rfl, hg⟩
theorem tag_cells {w : World} {b : Nat} {x y z : Value} {t : TypeId} (h : w.heap[b]? = some (.cells #[x, y, z] t (0, 0))) : w.cell? ⟨b, 0, none⟩ = some x ∧ w.cell? ⟨b, 1, none⟩ = some y ∧ w.cell? ⟨b, 2, none⟩ = some z := by
  exact ⟨by simp [World.cell?, h], by simp [World.cell?, h], by simp [World.cell?, h]⟩
theorem last_any (a s b : Nat) (h : (a + s + 18446744073709551608) % 18446744073709551616 = b) (w : World) :
    Calls Tryz.prog 73 #[.int .u64 a, .int .u64 s] w fun e w' => e = .returned (.int .u64 b) ∧ w = w' := by
  have e1 : IntKind.u64.wrap (IntKind.u64.wrap ((a : Int) + (s : Int)) - 8) = (b : Nat) := by rw [IntKind.wrap_u64, IntKind.wrap_u64]; omega
  go_enter Tryz.func73, Tryz.ntmps73
  go_wp2
  go_ret
  exact ⟨rfl, rfl⟩
def packN (s : Nat) (u : Bool) (o : Int) : Nat := if mayP s u o then o.toNat * 4294967296 + s + (if u then 1 else 0) else 0
theorem or_low (a b : Nat) (hb : b < 4294967296) : a * 4294967296 ||| b = a * 4294967296 + b := by
  have := Nat.two_pow_add_eq_or_of_lt (i := 32) (b := b) (by simpa using hb) a
  rw [Nat.mul_comm a, show (4294967296 : Nat) = 2 ^ 32 by decide, this]
theorem or_one (a : Nat) (h : a % 2 = 0) : a ||| 1 = a + 1 := by
  have := Nat.two_pow_add_eq_or_of_lt (i := 1) (b := 1) (by decide) (a / 2)
  rw [show 2 ^ 1 * (a / 2) = a by omega] at this
  exact this.symm
theorem pack_or (m s : Nat) (hm : m ≤ 8) (hs : s < 4294967296) : bits .or .u64 ((m : Int) * 4294967296) (s : Int) = ((m * 4294967296 + s : Nat) : Int) := by
  rw [show (m : Int) * 4294967296 = ((m * 4294967296 : Nat) : Int) by omega, u64_or_nat _ _ (by omega) (by omega), or_low _ _ hs]
theorem pack_one (q : Nat) (hq : q % 2 = 0) (h : q < 18446744073709551616) : bits .or .u64 (q : Int) 1 = ((q + 1 : Nat) : Int) := by
  rw [show (1 : Int) = ((1 : Nat) : Int) from rfl, u64_or_nat _ _ h (by decide), or_one _ hq]
set_option maxHeartbeats 1000000 in
theorem tpack_any (s : Nat) (u : Bool) (o : Int) (w : World) :
    Calls Tryz.prog 72 #[.agg #[.int .u64 s, .bool u, .int .i64 o]] w fun e w' => e = .returned (.int .u64 (packN s u o : Nat)) ∧ w.grownBy w' none := by
  have hc := fun w => tmay_any s u o w
  have hg : w.grownBy (w.alloc (.cells #[.int .u64 s, .bool u, .int .i64 o] 54)) none := World.grownBy_alloc _ _ _
  have hbox : (w.alloc (.cells #[.int .u64 s, .bool u, .int .i64 o] 54)).heap[w.heap.size]? = some (.cells #[.int .u64 s, .bool u, .int .i64 o] 54 (0, 0)) := heap_alloc_new' _ _
  by_cases h : mayP s u o
  · rw [decide_eq_true h] at hc
    unfold packN
    rw [if_pos h]
    have hm := h
    unfold mayP at hm
    obtain ⟨m, rfl⟩ := Int.eq_ofNat_of_zero_le hm.2.2.2.1
    simp only [Int.toNat_natCast]
    have e1 := pack_or m s (by omega) (by omega)
    have hq0 : (m * 4294967296 + s) % 2 = 0 := by omega
    have hq1 : m * 4294967296 + s < 18446744073709551616 := by omega
    obtain ⟨q, hq⟩ : ∃ q, m * 4294967296 + s = q := ⟨_, rfl⟩
    rw [hq] at e1 hq0 hq1 ⊢
    have e2 := pack_one q hq0 hq1
    have hm8 : m ≤ 8 := by omega
    clear h hm hq
    cases u
    · go_enter Tryz.func72, Tryz.ntmps72
      go_wp2_with (go_at_call 70; (with_reducible refine (hc _).mono ?_); rintro e w1 ⟨rfl, hg1⟩; have hb := (hg1.block _ (lt_of_block hbox) (by simp)).trans hbox; obtain ⟨c0, c1, c2⟩ := tag_cells hb; have HB := Lib.hid hb; clear hb)
      go_ret
      exact ⟨rfl, grown_trans hg hg1⟩
    · go_enter Tryz.func72, Tryz.ntmps72
      go_wp2_with (go_at_call 70; (with_reducible refine (hc _).mono ?_); rintro e w1 ⟨rfl, hg1⟩; have hb := (hg1.block _ (lt_of_block hbox) (by simp)).trans hbox; obtain ⟨c0, c1, c2⟩ := tag_cells hb; have HB := Lib.hid hb; clear hb)
      go_ret
      exact ⟨rfl, grown_trans hg hg1⟩
  · rw [decide_eq_false h] at hc
    unfold packN
    rw [if_neg h]
    clear h
    go_enter Tryz.func72, Tryz.ntmps72
    go_wp2_with (go_at_call 70; (with_reducible refine (hc _).mono ?_); rintro e w1 ⟨rfl, hg1⟩)
    go_ret
    exact ⟨rfl, grown_trans hg hg1⟩
end Go.Proofs.YtcngmkfpbcemjaaGreat
namespace Go.Proofs.YtcngmkfpbcemjaaGreat
open Go.RowKit
def usz (w : Nat) : Nat := w % 4294967296 - w % 2
def uus (w : Nat) : Bool := decide (w % 2 = 1)
def uow (w : Nat) : Nat := w / 4294967296
def mayW (w : Nat) : Prop := mayP (usz w) (uus w) (uow w : Nat)
instance (w : Nat) : Decidable (mayW w) := by unfold mayW; infer_instance
def tS (w : Nat) : Nat := if mayW w then usz w else 0
def tU (w : Nat) : Bool := if mayW w then uus w else false
def tO (w : Nat) : Nat := if mayW w then uow w else 0
theorem usz_and (w : Nat) (hw : w < 18446744073709551616) : bits .and .u64 (w : Int) 4294967294 = (usz w : Nat) := by
  rw [show (4294967294 : Int) = ((4294967294 : Nat) : Int) from rfl, u64_and_nat w 4294967294 hw (by decide)]
  congr 1
  have e : usz w = (w % 2 ^ 32) >>> 1 <<< 1 := by
    rw [Nat.shiftRight_eq_div_pow, Nat.shiftLeft_eq]
    unfold usz
    omega
  rw [e, show 4294967294 = (2 ^ 31 - 1) <<< 1 by decide]
  apply Nat.eq_of_testBit_eq
  intro i
  rw [Nat.testBit_and, Nat.testBit_shiftLeft, Nat.testBit_shiftLeft, Nat.testBit_two_pow_sub_one, Nat.testBit_shiftRight, Nat.testBit_mod_two_pow]
  by_cases h1 : i ≥ 1
  · rw [show 1 + (i - 1) = i by omega]
    by_cases h2 : i < 32
    · simp [h1, h2, show i - 1 < 31 by omega]
    · simp [h1, h2, show ¬ i - 1 < 31 by omega]
  · simp [h1]
theorem uus_and (w : Nat) (hw : w < 18446744073709551616) : bits .and .u64 (w : Int) 1 = (w % 2 : Nat) := by
  rw [show (1 : Int) = ((1 : Nat) : Int) from rfl, u64_and_nat w 1 hw (by decide), nat_mask1]
theorem uow_lt (w : Nat) (hw : w < 18446744073709551616) : uow w < 4294967296 := by unfold uow; omega
theorem uus_cases (w : Nat) : (w % 2 = 1 ∧ uus w = true) ∨ (w % 2 = 0 ∧ uus w = false) := by
  unfold uus
  rcases Nat.mod_two_eq_zero_or_one w with h | h
  · exact .inr ⟨h, by simp [h]⟩
  · exact .inl ⟨h, by simp [h]⟩
theorem tag_two {w w' : World} {a b c x y z : Value} {t : TypeId} (hg : ((w.alloc (.cells #[a, b, c] t)).alloc (.cells #[x, y, z] t)).grownBy w' none) :
    w'.heap[w.heap.size]? = some (.cells #[a, b, c] t (0, 0)) ∧ w'.heap[w.heap.size + 1]? = some (.cells #[x, y, z] t (0, 0)) := by
  have h1 : (w.alloc (.cells #[a, b, c] t)).heap[w.heap.size]? = some (.cells #[a, b, c] t (0, 0)) := heap_alloc_new' _ _
  have h2 := ((World.grownBy_alloc (w.alloc (.cells #[a, b, c] t)) (.cells #[x, y, z] t) none).block _ (lt_of_block h1) (by simp)).trans h1
  have h3 := heap_alloc_new' (w.alloc (.cells #[a, b, c] t)) (.cells #[x, y, z] t)
  rw [World.size_alloc] at h3
  exact ⟨(hg.block _ (lt_of_block h2) (by simp)).trans h2, (hg.block _ (lt_of_block h3) (by simp)).trans h3⟩
theorem tag_frozen {w : World} {b : Nat} {x y z : Value} {t : TypeId} (h : w.heap[b]? = some (.cells #[x, y, z] t (0, 0))) : w.frozen? ⟨b, 0, none⟩ = false ∧ w.frozen? ⟨b, 1, none⟩ = false ∧ w.frozen? ⟨b, 2, none⟩ = false := by
  exact ⟨by simp [World.frozen?, h], by simp [World.frozen?, h], by simp [World.frozen?, h]⟩
theorem tag_put {w : World} {b : Nat} {x y z x' y' z' : Value} {t : TypeId} (h : w.heap[b]? = some (.cells #[x, y, z] t (0, 0))) : (((w.setCell ⟨b, 0, none⟩ x').setCell ⟨b, 1, none⟩ y').setCell ⟨b, 2, none⟩ z').heap[b]? = some (.cells #[x', y', z'] t (0, 0)) := by
  rw [heap_setCell_same (heap_setCell_same (heap_setCell_same h x') y') z']; rfl
theorem tag_grown {w0 w : World} {b : Nat} {x' y' z' : Value} (h : w0.grownBy w none) (hb : w0.heap.size ≤ b) : w0.grownBy (((w.setCell ⟨b, 0, none⟩ x').setCell ⟨b, 1, none⟩ y').setCell ⟨b, 2, none⟩ z') none :=
  grown_new (grown_trans (grown_any h _) (grown_trans (grown_set _ _ _ _) (grown_trans (grown_set _ _ _ _) (grown_set _ _ _ _)))) hb
theorem tunpack_core (w : Nat) (u : Bool) (c : Nat) (hw : w < 18446744073709551616) (hu : uus w = u) (hcm : w % 2 = c) (huc : ((c : Int) != 0) = u) (W : World) :
    Calls Tryz.prog 81 #[.int .u64 w] W fun e w' => e = .returned (.tuple #[.agg #[.int .u64 (tS w : Nat), .bool (tU w), .int .i64 (tO w : Nat)], .bool (decide (mayW w))]) ∧ W.grownBy w' none := by
  have hc := fun W => tmay_any (usz w) (uus w) (uow w : Nat) W
  rw [hu] at hc
  have e1 := usz_and w hw
  have e2 := uus_and w hw
  rw [hcm] at e2
  have e3 : (w : Int) / 4294967296 = (uow w : Nat) := by unfold uow; omega
  have e4 : uow w < 4294967296 := uow_lt w hw
  by_cases h : mayW w
  · rw [decide_eq_true (show mayP (usz w) u (uow w) by rw [← hu]; exact h)] at hc
    rw [decide_eq_true h, show tS w = usz w from if_pos h, show tU w = uus w from if_pos h, show tO w = uow w from if_pos h, hu]
    clear h
    go_enter Tryz.func81, Tryz.ntmps81
    go_wp2_with (go_at_call 70; (with_reducible refine (hc _).mono ?_); rintro e w1 ⟨rfl, hg1⟩; obtain ⟨hb0, hb1⟩ := tag_two hg1; obtain ⟨c0, c1, c2⟩ := tag_cells hb1; obtain ⟨d0, d1, d2⟩ := tag_cells hb0; obtain ⟨f0, f1, f2⟩ := tag_frozen hb0; have HB := Lib.hid hb0; clear hb0 hb1)
    have hb := tag_put HB.out (x' := .int .u64 (usz w : Nat)) (y' := .bool u) (z' := .int .i64 (uow w : Nat))
    obtain ⟨k0, k1, k2⟩ := tag_cells hb
    refine bodyPost_ret (v := .tuple #[.agg #[.int .u64 (usz w : Nat), .bool u, .int .i64 (uow w : Nat)], .bool true]) (by simp [results, Tryz.results81, go_sem, k0, k1, k2]) rfl ?_
    exact ⟨rfl, tag_grown (grown_trans (World.grownBy_alloc _ _ _) (grown_trans (World.grownBy_alloc _ _ _) hg1)) (Nat.le_refl _)⟩
  · rw [decide_eq_false (show ¬ mayP (usz w) u (uow w) by rw [← hu]; exact h)] at hc
    rw [decide_eq_false h, show tS w = 0 from if_neg h, show tU w = false from if_neg h, show tO w = 0 from if_neg h]
    clear h
    go_enter Tryz.func81, Tryz.ntmps81
    go_wp2_with (go_at_call 70; (with_reducible refine (hc _).mono ?_); rintro e w1 ⟨rfl, hg1⟩; obtain ⟨hb0, hb1⟩ := tag_two hg1; obtain ⟨c0, c1, c2⟩ := tag_cells hb1; obtain ⟨d0, d1, d2⟩ := tag_cells hb0; obtain ⟨f0, f1, f2⟩ := tag_frozen hb0; have HB := Lib.hid hb0; clear hb0 hb1)
    have hb := tag_put HB.out (x' := .int .u64 0) (y' := .bool false) (z' := .int .i64 0)
    obtain ⟨k0, k1, k2⟩ := tag_cells hb
    refine bodyPost_ret (v := .tuple #[.agg #[.int .u64 0, .bool false, .int .i64 0], .bool false]) (by simp [results, Tryz.results81, go_sem, k0, k1, k2]) rfl ?_
    exact ⟨rfl, tag_grown (grown_trans (World.grownBy_alloc _ _ _) (grown_trans (World.grownBy_alloc _ _ _) hg1)) (Nat.le_refl _)⟩
theorem tunpack_any (w : Nat) (hw : w < 18446744073709551616) (W : World) :
    Calls Tryz.prog 81 #[.int .u64 w] W fun e w' => e = .returned (.tuple #[.agg #[.int .u64 (tS w : Nat), .bool (tU w), .int .i64 (tO w : Nat)], .bool (decide (mayW w))]) ∧ W.grownBy w' none := by
  rcases uus_cases w with ⟨h1, h2⟩ | ⟨h1, h2⟩
  · exact tunpack_core w true 1 hw h2 h1 (by decide) W
  · exact tunpack_core w false 0 hw h2 h1 (by decide) W
theorem pack_unpack (w : Nat) (h : mayW w) : packN (usz w) (uus w) (uow w : Nat) = w := by
  unfold packN
  rw [if_pos (show mayP (usz w) (uus w) (uow w : Nat) from h)]
  rcases uus_cases w with ⟨h1, h2⟩ | ⟨h1, h2⟩ <;> rw [h2] <;> simp only [Int.toNat_natCast, if_true, if_false, Bool.false_eq_true] <;> unfold usz uow <;> omega
end Go.Proofs.YtcngmkfpbcemjaaGreat
