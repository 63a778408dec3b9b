/-
  Texts of one layer, one behind the other: memory, contracts of the functions, and what follows of them.
  Conditions: as each theorem says.
-/
import Derived.Test.YtmcnpenihoaajaaGreatLHea
import Derived.Laws.StructEq
import Derived.Laws.Bits64
import Derived.Test.YtmcnpenihoaajaaGreatLWoa
import Derived.Test.YtmcnpenihoaajaaGreatLTxa
import Derived.Deep.AppendLies
import Derived.Laws.AppendOwnNone
import Derived.StillTailTactics
import Derived.BigQuiet
set_option linter.unusedVariables false
set_option linter.unusedSimpArgs false
namespace Go.Proofs.YtmcnpenihoaajaaGreat
open Go.RowKit
def mayP (s : Nat) (u : Bool) (o : Int) : Prop := s % 16 = 0 ∧ 48 ≤ s ∧ s ≤ 1048576 ∧ 0 ≤ o ∧ o ≤ 8 ∧ (u = true ∨ o = 0)
instance (s : Nat) (u : Bool) (o : Int) : Decidable (mayP s u o) := by unfold mayP; infer_instance
theorem may_used (s : Nat) (o : Int) : mayP s true o ↔ s % 16 = 0 ∧ 48 ≤ s ∧ s ≤ 1048576 ∧ 0 ≤ o ∧ o ≤ 8 := by unfold mayP; simp
theorem may_free (s : Nat) (o : Int) : mayP s false o ↔ s % 16 = 0 ∧ 48 ≤ s ∧ s ≤ 1048576 ∧ o = 0 := by
  unfold mayP
  simp only [Bool.false_eq_true, false_or]
  omega
set_option maxHeartbeats 1000000 in
theorem tmay_any (s : Nat) (u : Bool) (o : Int) (w : World) :
    Calls Tryz.prog 194 #[.agg #[.int .u64 s, .bool u, .int .i64 o]] w fun e w' => e = .returned (.bool (decide (mayP s u o))) ∧ w.grownBy w' none := by
  have hg : w.grownBy (w.alloc (.cells #[.int .u64 s, .bool u, .int .i64 o] 126)) none := World.grownBy_alloc _ _ _
  by_cases h0 : (s : Int) % 16 = 0
  · by_cases h1 : (s : Int) < 48
    · rw [decide_eq_false (show ¬ mayP s u o by unfold mayP; omega)]
      go_enter Tryz.func194, Tryz.ntmps194
      go_wp2
      go_ret
      exact ⟨rfl, hg⟩
    · by_cases h2 : 1048576 < (s : Int)
      · rw [decide_eq_false (show ¬ mayP s u o by unfold mayP; omega)]
        go_enter Tryz.func194, Tryz.ntmps194
        go_wp2
        go_ret
        exact ⟨rfl, hg⟩
      · cases u
        · rw [show decide (mayP s false o) = (o == 0) by rw [Bool.eq_iff_iff, decide_eq_true_iff, beq_iff_eq, may_free]; omega]
          go_enter Tryz.func194, Tryz.ntmps194
          go_wp2
          go_ret
          exact ⟨rfl, hg⟩
        · by_cases h3 : 0 ≤ o
          · rw [show decide (mayP s true o) = decide (o ≤ 8) by rw [decide_eq_decide, may_used]; omega]
            go_enter Tryz.func194, Tryz.ntmps194
            go_wp2
            go_ret
            exact ⟨rfl, hg⟩
          · rw [decide_eq_false (show ¬ mayP s true o by rw [may_used]; omega)]
            go_enter Tryz.func194, Tryz.ntmps194
            go_wp2
            go_ret
            exact ⟨rfl, hg⟩
  · rw [decide_eq_false (show ¬ mayP s u o by unfold mayP; omega)]
    go_enter Tryz.func194, Tryz.ntmps194
    go_wp2
    go_ret
    exact ⟨rfl, hg⟩
theorem tag_cells {w : World} {b : Nat} {x y z : Value} {t : TypeId} (h : w.heap[b]? = some (.cells #[x, y, z] t (0, 0))) : w.cell? ⟨b, 0, none⟩ = some x ∧ w.cell? ⟨b, 1, none⟩ = some y ∧ w.cell? ⟨b, 2, none⟩ = some z := by
  exact ⟨by simp [World.cell?, h], by simp [World.cell?, h], by simp [World.cell?, h]⟩
theorem last_any (a s b : Nat) (h : (a + s + 18446744073709551608) % 18446744073709551616 = b) (w : World) :
    Calls Tryz.prog 191 #[.int .u64 a, .int .u64 s] w fun e w' => e = .returned (.int .u64 b) ∧ w = w' := by
  have e1 : IntKind.u64.wrap (IntKind.u64.wrap ((a : Int) + (s : Int)) - 8) = (b : Nat) := by rw [IntKind.wrap_u64, IntKind.wrap_u64]; omega
  go_enter Tryz.func191, Tryz.ntmps191
  go_wp2
  go_ret
  exact ⟨rfl, rfl⟩
def packN (s : Nat) (u : Bool) (o : Int) : Nat := if mayP s u o then o.toNat * 4294967296 + s + (if u then 1 else 0) else 0
end Go.Proofs.YtmcnpenihoaajaaGreat
namespace Go.Proofs.YtmcnpenihoaajaaGreat
open Go.RowKit
def usz (w : Nat) : Nat := w % 4294967296 - w % 2
def uus (w : Nat) : Bool := decide (w % 2 = 1)
def uow (w : Nat) : Nat := w / 4294967296
def mayW (w : Nat) : Prop := mayP (usz w) (uus w) (uow w : Nat)
instance (w : Nat) : Decidable (mayW w) := by unfold mayW; infer_instance
def tS (w : Nat) : Nat := if mayW w then usz w else 0
def tU (w : Nat) : Bool := if mayW w then uus w else false
def tO (w : Nat) : Nat := if mayW w then uow w else 0
theorem usz_and (w : Nat) (hw : w < 18446744073709551616) : bits .and .u64 (w : Int) 4294967294 = (usz w : Nat) := by
  rw [show (4294967294 : Int) = ((4294967294 : Nat) : Int) from rfl, u64_and_nat w 4294967294 hw (by decide)]
  congr 1
  have e : usz w = (w % 2 ^ 32) >>> 1 <<< 1 := by
    rw [Nat.shiftRight_eq_div_pow, Nat.shiftLeft_eq]
    unfold usz
    omega
  rw [e, show 4294967294 = (2 ^ 31 - 1) <<< 1 by decide]
  apply Nat.eq_of_testBit_eq
  intro i
  rw [Nat.testBit_and, Nat.testBit_shiftLeft, Nat.testBit_shiftLeft, Nat.testBit_two_pow_sub_one, Nat.testBit_shiftRight, Nat.testBit_mod_two_pow]
  by_cases h1 : i ≥ 1
  · rw [show 1 + (i - 1) = i by omega]
    by_cases h2 : i < 32
    · simp [h1, h2, show i - 1 < 31 by omega]
    · simp [h1, h2, show ¬ i - 1 < 31 by omega]
  · simp [h1]
theorem uus_and (w : Nat) (hw : w < 18446744073709551616) : bits .and .u64 (w : Int) 1 = (w % 2 : Nat) := by
  rw [show (1 : Int) = ((1 : Nat) : Int) from rfl, u64_and_nat w 1 hw (by decide), nat_mask1]
theorem uow_lt (w : Nat) (hw : w < 18446744073709551616) : uow w < 4294967296 := by unfold uow; omega
theorem uus_cases (w : Nat) : (w % 2 = 1 ∧ uus w = true) ∨ (w % 2 = 0 ∧ uus w = false) := by
  unfold uus
  rcases Nat.mod_two_eq_zero_or_one w with h | h
  · exact .inr ⟨h, by simp [h]⟩
  · exact .inl ⟨h, by simp [h]⟩
theorem tag_two {w w' : World} {a b c x y z : Value} {t : TypeId} (hg : ((w.alloc (.cells #[a, b, c] t)).alloc (.cells #[x, y, z] t)).grownBy w' none) :
    w'.heap[w.heap.size]? = some (.cells #[a, b, c] t (0, 0)) ∧ w'.heap[w.heap.size + 1]? = some (.cells #[x, y, z] t (0, 0)) := by
  have h1 : (w.alloc (.cells #[a, b, c] t)).heap[w.heap.size]? = some (.cells #[a, b, c] t (0, 0)) := heap_alloc_new' _ _
  have h2 := ((World.grownBy_alloc (w.alloc (.cells #[a, b, c] t)) (.cells #[x, y, z] t) none).block _ (lt_of_block h1) (by simp)).trans h1
  have h3 := heap_alloc_new' (w.alloc (.cells #[a, b, c] t)) (.cells #[x, y, z] t)
  rw [World.size_alloc] at h3
  exact ⟨(hg.block _ (lt_of_block h2) (by simp)).trans h2, (hg.block _ (lt_of_block h3) (by simp)).trans h3⟩
theorem tag_frozen {w : World} {b : Nat} {x y z : Value} {t : TypeId} (h : w.heap[b]? = some (.cells #[x, y, z] t (0, 0))) : w.frozen? ⟨b, 0, none⟩ = false ∧ w.frozen? ⟨b, 1, none⟩ = false ∧ w.frozen? ⟨b, 2, none⟩ = false := by
  exact ⟨by simp [World.frozen?, h], by simp [World.frozen?, h], by simp [World.frozen?, h]⟩
theorem tag_put {w : World} {b : Nat} {x y z x' y' z' : Value} {t : TypeId} (h : w.heap[b]? = some (.cells #[x, y, z] t (0, 0))) : (((w.setCell ⟨b, 0, none⟩ x').setCell ⟨b, 1, none⟩ y').setCell ⟨b, 2, none⟩ z').heap[b]? = some (.cells #[x', y', z'] t (0, 0)) := by
  rw [heap_setCell_same (heap_setCell_same (heap_setCell_same h x') y') z']; rfl
theorem tag_grown {w0 w : World} {b : Nat} {x' y' z' : Value} (h : w0.grownBy w none) (hb : w0.heap.size ≤ b) : w0.grownBy (((w.setCell ⟨b, 0, none⟩ x').setCell ⟨b, 1, none⟩ y').setCell ⟨b, 2, none⟩ z') none :=
  grown_new (grown_trans (grown_any h _) (grown_trans (grown_set _ _ _ _) (grown_trans (grown_set _ _ _ _) (grown_set _ _ _ _)))) hb
theorem tunpack_core (w : Nat) (u : Bool) (c : Nat) (hw : w < 18446744073709551616) (hu : uus w = u) (hcm : w % 2 = c) (huc : ((c : Int) != 0) = u) (W : World) :
    Calls Tryz.prog 162 #[.int .u64 w] W fun e w' => e = .returned (.tuple #[.agg #[.int .u64 (tS w : Nat), .bool (tU w), .int .i64 (tO w : Nat)], .bool (decide (mayW w))]) ∧ W.grownBy w' none := by
  have hc := fun W => tmay_any (usz w) (uus w) (uow w : Nat) W
  rw [hu] at hc
  have e1 := usz_and w hw
  have e2 := uus_and w hw
  rw [hcm] at e2
  have e3 : (w : Int) / 4294967296 = (uow w : Nat) := by unfold uow; omega
  have e4 : uow w < 4294967296 := uow_lt w hw
  by_cases h : mayW w
  · rw [decide_eq_true (show mayP (usz w) u (uow w) by rw [← hu]; exact h)] at hc
    rw [decide_eq_true h, show tS w = usz w from if_pos h, show tU w = uus w from if_pos h, show tO w = uow w from if_pos h, hu]
    clear h
    go_enter Tryz.func162, Tryz.ntmps162
    go_wp2_with (go_at_call 194; (with_reducible refine (hc _).mono ?_); rintro e w1 ⟨rfl, hg1⟩; obtain ⟨hb0, hb1⟩ := tag_two hg1; obtain ⟨c0, c1, c2⟩ := tag_cells hb1; obtain ⟨d0, d1, d2⟩ := tag_cells hb0; obtain ⟨f0, f1, f2⟩ := tag_frozen hb0; have HB := Lib.hid hb0; clear hb0 hb1)
    have hb := tag_put HB.out (x' := .int .u64 (usz w : Nat)) (y' := .bool u) (z' := .int .i64 (uow w : Nat))
    obtain ⟨k0, k1, k2⟩ := tag_cells hb
    refine bodyPost_ret (v := .tuple #[.agg #[.int .u64 (usz w : Nat), .bool u, .int .i64 (uow w : Nat)], .bool true]) (by simp [results, Tryz.results162, go_sem, k0, k1, k2]) rfl ?_
    exact ⟨rfl, tag_grown (grown_trans (World.grownBy_alloc _ _ _) (grown_trans (World.grownBy_alloc _ _ _) hg1)) (Nat.le_refl _)⟩
  · rw [decide_eq_false (show ¬ mayP (usz w) u (uow w) by rw [← hu]; exact h)] at hc
    rw [decide_eq_false h, show tS w = 0 from if_neg h, show tU w = false from if_neg h, show tO w = 0 from if_neg h]
    clear h
    go_enter Tryz.func162, Tryz.ntmps162
    go_wp2_with (go_at_call 194; (with_reducible refine (hc _).mono ?_); rintro e w1 ⟨rfl, hg1⟩; obtain ⟨hb0, hb1⟩ := tag_two hg1; obtain ⟨c0, c1, c2⟩ := tag_cells hb1; obtain ⟨d0, d1, d2⟩ := tag_cells hb0; obtain ⟨f0, f1, f2⟩ := tag_frozen hb0; have HB := Lib.hid hb0; clear hb0 hb1)
    have hb := tag_put HB.out (x' := .int .u64 0) (y' := .bool false) (z' := .int .i64 0)
    obtain ⟨k0, k1, k2⟩ := tag_cells hb
    refine bodyPost_ret (v := .tuple #[.agg #[.int .u64 0, .bool false, .int .i64 0], .bool false]) (by simp [results, Tryz.results162, go_sem, k0, k1, k2]) rfl ?_
    exact ⟨rfl, tag_grown (grown_trans (World.grownBy_alloc _ _ _) (grown_trans (World.grownBy_alloc _ _ _) hg1)) (Nat.le_refl _)⟩
theorem tunpack_any (w : Nat) (hw : w < 18446744073709551616) (W : World) :
    Calls Tryz.prog 162 #[.int .u64 w] W fun e w' => e = .returned (.tuple #[.agg #[.int .u64 (tS w : Nat), .bool (tU w), .int .i64 (tO w : Nat)], .bool (decide (mayW w))]) ∧ W.grownBy w' none := by
  rcases uus_cases w with ⟨h1, h2⟩ | ⟨h1, h2⟩
  · exact tunpack_core w true 1 hw h2 h1 (by decide) W
  · exact tunpack_core w false 0 hw h2 h1 (by decide) W
theorem pack_unpack (w : Nat) (h : mayW w) : packN (usz w) (uus w) (uow w : Nat) = w := by
  unfold packN
  rw [if_pos (show mayP (usz w) (uus w) (uow w : Nat) from h)]
  rcases uus_cases w with ⟨h1, h2⟩ | ⟨h1, h2⟩ <;> rw [h2] <;> simp only [Int.toNat_natCast, if_true, if_false, Bool.false_eq_true] <;> unfold usz uow <;> omega
end Go.Proofs.YtmcnpenihoaajaaGreat
namespace Go.Proofs.YtmcnpenihoaajaaGreat
open Go.RowKit
def inP (z off s : Nat) : Prop := off % 16 = 0 ∧ 3776 ≤ off ∧ off < z ∧ s ≤ z - off
instance (z off s : Nat) : Decidable (inP z off s) := by unfold inP; infer_instance
def rdP (f : Nat → Nat) (off : Nat) : Prop := mayW (f off) ∧ inP (f 16) off (usz (f off)) ∧ f (off + usz (f off) - 8) = f off
instance (f : Nat → Nat) (off : Nat) : Decidable (rdP f off) := by unfold rdP; infer_instance
def rdS (f : Nat → Nat) (off : Nat) : Nat := if rdP f off then usz (f off) else 0
def rdU (f : Nat → Nat) (off : Nat) : Bool := if rdP f off then uus (f off) else false
def rdO (f : Nat → Nat) (off : Nat) : Nat := if rdP f off then uow (f off) else 0
def rdE (f : Nat → Nat) (off : Nat) : Nat := if rdP f off then 0 else 12
theorem rd_yes {f : Nat → Nat} {off : Nat} (h : rdP f off) : rdS f off = usz (f off) ∧ rdU f off = uus (f off) ∧ rdO f off = uow (f off) ∧ rdE f off = 0 := ⟨if_pos h, if_pos h, if_pos h, if_pos h⟩
theorem rd_no {f : Nat → Nat} {off : Nat} (h : ¬ rdP f off) : rdS f off = 0 ∧ rdU f off = false ∧ rdO f off = 0 ∧ rdE f off = 12 := ⟨if_neg h, if_neg h, if_neg h, if_neg h⟩
theorem t_yes {w : Nat} (h : mayW w) : tS w = usz w ∧ tU w = uus w ∧ tO w = uow w := ⟨if_pos h, if_pos h, if_pos h⟩
theorem t_no {w : Nat} (h : ¬ mayW w) : tS w = 0 ∧ tU w = false ∧ tO w = 0 := ⟨if_neg h, if_neg h, if_neg h⟩
theorem mayW_size {w : Nat} (h : mayW w) : 48 ≤ usz w ∧ usz w ≤ 1048576 ∧ usz w % 16 = 0 ∧ uow w ≤ 8 := by
  unfold mayW mayP at h
  omega
theorem tag_one {w x : Nat} (h : mayW w) : (tS x = usz w ∧ tU x = uus w ∧ tO x = uow w) ↔ x = w := by
  constructor
  · rintro ⟨h1, h2, h3⟩
    by_cases hx : mayW x
    · obtain ⟨e1, e2, e3⟩ := t_yes hx
      rw [e1] at h1
      rw [e2] at h2
      rw [e3] at h3
      rw [← pack_unpack x hx, h1, h2, h3, pack_unpack w h]
    · obtain ⟨e1, _⟩ := t_no hx
      have := (mayW_size h).1
      omega
  · rintro rfl
    exact t_yes h
section
variable {w : World} {T M : Nat} {R : Option Nat} {B D : Nat} {ws : List Nat} {l : List (Nat × Nat)}
theorem inside_any (h : Thinks w T M R B D ws l) (off s : Nat) :
    Calls Tryz.prog 190 #[.pointer (some ⟨T, 0, none⟩), .int .u64 off, .int .u64 s] w fun e w' => e = .returned (.bool (decide (inP (txSee ws l 16) off s))) ∧ w.grownBy w' none := by
  have hc := hsize_any h
  have hlt := txSee_lt h.seg.words h.ok 16
  obtain ⟨z, hz⟩ : ∃ z, txSee ws l 16 = z := ⟨_, rfl⟩
  rw [hz] at hc hlt ⊢
  by_cases h0 : (off : Int) % 16 = 0
  · by_cases h1 : (off : Int) < 3776
    · rw [decide_eq_false (show ¬ inP z off s by unfold inP; omega)]
      go_enter Tryz.func190, Tryz.ntmps190
      go_wp2_with (go_at_call 33; (with_reducible refine hc.mono ?_); rintro e w1 ⟨rfl, hg1⟩)
      go_ret
      exact ⟨rfl, hg1⟩
    · by_cases h2 : (off : Int) < (z : Int)
      · have e : decide (inP z off s) = decide (s ≤ z - off) := by rw [decide_eq_decide]; unfold inP; omega
        have e2 : IntKind.u64.wrap ((z : Int) - (off : Int)) = (z - off : Nat) := by rw [IntKind.wrap_u64]; omega
        rw [e]
        go_enter Tryz.func190, Tryz.ntmps190
        go_wp2_with (go_at_call 33; (with_reducible refine hc.mono ?_); rintro e w1 ⟨rfl, hg1⟩)
        go_ret
        exact ⟨rfl, hg1⟩
      · rw [decide_eq_false (show ¬ inP z off s by unfold inP; omega)]
        go_enter Tryz.func190, Tryz.ntmps190
        go_wp2_with (go_at_call 33; (with_reducible refine hc.mono ?_); rintro e w1 ⟨rfl, hg1⟩)
        go_ret
        exact ⟨rfl, hg1⟩
  · rw [decide_eq_false (show ¬ inP z off s by unfold inP; omega)]
    go_enter Tryz.func190, Tryz.ntmps190
    go_wp2_with (go_at_call 33; (with_reducible refine hc.mono ?_); rintro e w1 ⟨rfl, hg1⟩)
    go_ret
    exact ⟨rfl, hg1⟩
end
section
variable {w : World} {T M : Nat} {R : Option Nat} {B D : Nat} {ws : List Nat} {l : List (Nat × Nat)}
end
section
variable {w : World} {T M : Nat} {R : Option Nat} {B D : Nat} {ws : List Nat} {l : List (Nat × Nat)}
theorem tag_first {w w' : World} {x y z : Value} {t : TypeId} (hg : (w.alloc (.cells #[x, y, z] t)).grownBy w' none) : w'.heap[w.heap.size]? = some (.cells #[x, y, z] t (0, 0)) := by
  have h1 : (w.alloc (.cells #[x, y, z] t)).heap[w.heap.size]? = some (.cells #[x, y, z] t (0, 0)) := heap_alloc_new' _ _
  exact (hg.block _ (lt_of_block h1) (by simp)).trans h1
set_option maxHeartbeats 2000000 in
theorem tread_any (h : Thinks w T M R B D ws l) (off : Nat) (ho : off < 18446744073709551616) :
    Calls Tryz.prog 160 #[.pointer (some ⟨T, 0, none⟩), .int .u64 off] w fun e w' => e = .returned (.tuple #[.agg #[.int .u64 (rdS (txSee ws l) off : Nat), .bool (rdU (txSee ws l) off), .int .i64 (rdO (txSee ws l) off : Nat)], .int .i64 (rdE (txSee ws l) off : Nat)]) ∧ w.grownBy w' none := by
  have hload := fun (w1 : World) (hg : w.grownBy w1 none) => txload_any (h.later hg) off ho
  have hlt := txSee_lt h.seg.words h.ok
  obtain ⟨f, hf⟩ : ∃ f, txSee ws l = f := ⟨_, rfl⟩
  have hun := fun w1 => tunpack_any (txSee ws l off) (hlt off) w1
  have hin := fun (w1 : World) (hg : w.grownBy w1 none) => inside_any (h.later hg) off (tS (txSee ws l off))
  rw [hf] at hload hun hin hlt ⊢
  obtain ⟨x, hx⟩ : ∃ x, f off = x := ⟨_, rfl⟩
  rw [hx] at hload hun hin
  have hg0 : w.grownBy (w.alloc (.cells #[.int .u64 0, .bool false, .int .i64 0] 126)) none := World.grownBy_alloc _ _ _
  by_cases hm : mayW x
  · rw [decide_eq_true hm] at hun
    obtain ⟨q1, q2, q3⟩ := t_yes hm
    rw [q1, q2, q3] at hun
    rw [q1] at hin
    clear q1 q2 q3
    by_cases hi : inP (f 16) off (usz x)
    · have hb48 := mayW_size hm
      obtain ⟨b, hb⟩ : ∃ b, off + usz x - 8 = b := ⟨_, rfl⟩
      have hb64 : b < 18446744073709551616 ∧ (off + usz x + 18446744073709551608) % 18446744073709551616 = b := by
        have := hlt 16
        unfold inP at hi
        omega
      have hla := fun w => last_any off (usz x) b hb64.2 w
      have hload2 := fun (w1 : World) (hg : w.grownBy w1 none) => txload_any (h.later hg) b hb64.1
      have hun2 := fun w1 => tunpack_any (f b) (hlt b) w1
      rw [hf] at hload2
      obtain ⟨y, hy⟩ : ∃ y, f b = y := ⟨_, rfl⟩
      rw [hy] at hload2 hun2
      rw [decide_eq_true hi] at hin
      have hone := tag_one (x := y) hm
      have hrd : rdP f off ↔ y = x := by
        unfold rdP
        rw [hx, hb, hy]
        exact ⟨fun h => h.2.2, fun h => ⟨hm, hi, h⟩⟩
      obtain ⟨s, hs⟩ : ∃ s, usz x = s := ⟨_, rfl⟩
      obtain ⟨u, hu⟩ : ∃ u, uus x = u := ⟨_, rfl⟩
      obtain ⟨o, hoo⟩ : ∃ o, uow x = o := ⟨_, rfl⟩
      rw [hs, hu, hoo] at hone
      rw [hs, hu, hoo] at hun
      rw [hs] at hin hla
      clear hlt hb hb64 hi hb48
      by_cases hyx : y = x
      · obtain ⟨a1, a2, a3⟩ := hone.2 hyx
        have hr := rd_yes (hrd.2 hyx)
        rw [hx, hs, hu, hoo] at hr
        rw [hr.1, hr.2.1, hr.2.2.1, hr.2.2.2]
        rw [a1, a2, a3] at hun2
        clear hr hone hrd hm a1 a2 a3 hs hu hoo hf hx hy h hyx
        go_enter Tryz.func160, Tryz.ntmps160
        go_wp2_with (first | (go_at_call 66; ((with_reducible refine (hload _ hg0).mono ?_); rintro e w1 ⟨rfl, hg1⟩)) | (go_at_call 162; ((with_reducible refine (hun _).mono ?_); rintro e w2 ⟨rfl, hg2⟩; have G2 := grown_trans hg0 (grown_trans hg1 hg2); have G2a := grown_trans G2 (World.grownBy_alloc w2 (.cells #[.int .u64 (s : Nat), .bool u, .int .i64 (o : Nat)] 126) none))) | (go_at_call 190; ((with_reducible refine (hin _ G2a).mono ?_); rintro e w3 ⟨rfl, hg3⟩; have HX := Lib.hid (tag_first hg3); obtain ⟨x0, x1, x2⟩ := tag_cells HX.out)) | (go_at_call 191; ((with_reducible refine (hla _).mono ?_); rintro e w4 ⟨rfl, rfl⟩)) | (go_at_call 66; ((with_reducible refine (hload2 _ (grown_trans G2a hg3)).mono ?_); rintro e w5 ⟨rfl, hg5⟩)) | (go_at_call 162; ((with_reducible refine (hun2 _).mono ?_); rintro e w6 ⟨rfl, hg6⟩; have G6 := grown_trans hg5 (grown_trans hg6 (World.grownBy_alloc w6 (.cells #[.int .u64 (s : Nat), .bool u, .int .i64 (o : Nat)] 126) none)); have HX6 := Lib.hid ((G6.block _ (lt_of_block HX.out) (by simp)).trans HX.out); obtain ⟨y0, y1, y2⟩ := tag_cells HX6.out; have HB := Lib.hid (tag_first (grown_trans hg1 (grown_trans hg2 (grown_trans (World.grownBy_alloc _ _ _) (grown_trans hg3 G6))))); obtain ⟨d0, d1, d2⟩ := tag_cells HB.out; obtain ⟨f0, f1, f2⟩ := tag_frozen HB.out)))
        have hb := tag_put HB.out (x' := .int .u64 (s : Nat)) (y' := .bool u) (z' := .int .i64 (o : Nat))
        obtain ⟨k0, k1, k2⟩ := tag_cells hb
        refine bodyPost_ret (v := .tuple #[.agg #[.int .u64 (s : Nat), .bool u, .int .i64 (o : Nat)], .int .i64 0]) (by simp [results, Tryz.results160, go_sem, k0, k1, k2]) rfl ?_
        exact ⟨rfl, tag_grown (grown_trans G2a (grown_trans hg3 G6)) (Nat.le_refl _)⟩
      · have hr := rd_no (fun h => hyx (hrd.1 h))
        rw [hr.1, hr.2.1, hr.2.2.1, hr.2.2.2]
        have hnot := fun h => hyx (hone.1 h)
        obtain ⟨s2, a1⟩ : ∃ x, tS y = x := ⟨_, rfl⟩
        obtain ⟨u2, a2⟩ : ∃ x, tU y = x := ⟨_, rfl⟩
        obtain ⟨o2, a3⟩ : ∃ x, tO y = x := ⟨_, rfl⟩
        rw [a1, a2, a3] at hun2 hnot
        clear hr hone hrd hm a1 a2 a3 hs hu hoo hf hx hy h hyx
        have hcase : ((s2 : Int) == (s : Int)) = false ∨ (s2 = s ∧ ((u2 == u) = false ∨ (u2 = u ∧ ((o2 : Int) == (o : Int)) = false))) := by
          by_cases e1 : s2 = s
          · by_cases e2 : u2 = u
            · exact .inr ⟨e1, .inr ⟨e2, by rw [beq_eq_false_iff_ne]; exact fun e3 => hnot ⟨e1, e2, by omega⟩⟩⟩
            · exact .inr ⟨e1, .inl (by rw [beq_eq_false_iff_ne]; exact e2)⟩
          · exact .inl (by rw [beq_eq_false_iff_ne]; omega)
        clear hnot
        rcases hcase with hcase | ⟨rfl, hcase | ⟨rfl, hcase⟩⟩
        · go_enter Tryz.func160, Tryz.ntmps160
          go_wp2_with (first | (go_at_call 66; ((with_reducible refine (hload _ hg0).mono ?_); rintro e w1 ⟨rfl, hg1⟩)) | (go_at_call 162; ((with_reducible refine (hun _).mono ?_); rintro e w2 ⟨rfl, hg2⟩; have G2 := grown_trans hg0 (grown_trans hg1 hg2); have G2a := grown_trans G2 (World.grownBy_alloc w2 (.cells #[.int .u64 (s : Nat), .bool u, .int .i64 (o : Nat)] 126) none))) | (go_at_call 190; ((with_reducible refine (hin _ G2a).mono ?_); rintro e w3 ⟨rfl, hg3⟩; have HX := Lib.hid (tag_first hg3); obtain ⟨x0, x1, x2⟩ := tag_cells HX.out)) | (go_at_call 191; ((with_reducible refine (hla _).mono ?_); rintro e w4 ⟨rfl, rfl⟩)) | (go_at_call 66; ((with_reducible refine (hload2 _ (grown_trans G2a hg3)).mono ?_); rintro e w5 ⟨rfl, hg5⟩)) | (go_at_call 162; ((with_reducible refine (hun2 _).mono ?_); rintro e w6 ⟨rfl, hg6⟩; have G6 := grown_trans hg5 (grown_trans hg6 (World.grownBy_alloc w6 (.cells #[.int .u64 (s2 : Nat), .bool u2, .int .i64 (o2 : Nat)] 126) none)); have HX6 := Lib.hid ((G6.block _ (lt_of_block HX.out) (by simp)).trans HX.out); obtain ⟨y0, y1, y2⟩ := tag_cells HX6.out; have HB := Lib.hid (tag_first (grown_trans hg1 (grown_trans hg2 (grown_trans (World.grownBy_alloc _ _ _) (grown_trans hg3 G6))))); obtain ⟨d0, d1, d2⟩ := tag_cells HB.out; obtain ⟨f0, f1, f2⟩ := tag_frozen HB.out)))
          have hb := tag_put HB.out (x' := .int .u64 0) (y' := .bool false) (z' := .int .i64 0)
          obtain ⟨k0, k1, k2⟩ := tag_cells hb
          refine bodyPost_ret (v := .tuple #[.agg #[.int .u64 0, .bool false, .int .i64 0], .int .i64 12]) (by simp [results, Tryz.results160, go_sem, k0, k1, k2]) rfl ?_
          exact ⟨rfl, tag_grown (grown_trans G2a (grown_trans hg3 G6)) (Nat.le_refl _)⟩
        · go_enter Tryz.func160, Tryz.ntmps160
          go_wp2_with (first | (go_at_call 66; ((with_reducible refine (hload _ hg0).mono ?_); rintro e w1 ⟨rfl, hg1⟩)) | (go_at_call 162; ((with_reducible refine (hun _).mono ?_); rintro e w2 ⟨rfl, hg2⟩; have G2 := grown_trans hg0 (grown_trans hg1 hg2); have G2a := grown_trans G2 (World.grownBy_alloc w2 (.cells #[.int .u64 (s2 : Nat), .bool u, .int .i64 (o : Nat)] 126) none))) | (go_at_call 190; ((with_reducible refine (hin _ G2a).mono ?_); rintro e w3 ⟨rfl, hg3⟩; have HX := Lib.hid (tag_first hg3); obtain ⟨x0, x1, x2⟩ := tag_cells HX.out)) | (go_at_call 191; ((with_reducible refine (hla _).mono ?_); rintro e w4 ⟨rfl, rfl⟩)) | (go_at_call 66; ((with_reducible refine (hload2 _ (grown_trans G2a hg3)).mono ?_); rintro e w5 ⟨rfl, hg5⟩)) | (go_at_call 162; ((with_reducible refine (hun2 _).mono ?_); rintro e w6 ⟨rfl, hg6⟩; have G6 := grown_trans hg5 (grown_trans hg6 (World.grownBy_alloc w6 (.cells #[.int .u64 (s2 : Nat), .bool u2, .int .i64 (o2 : Nat)] 126) none)); have HX6 := Lib.hid ((G6.block _ (lt_of_block HX.out) (by simp)).trans HX.out); obtain ⟨y0, y1, y2⟩ := tag_cells HX6.out; have HB := Lib.hid (tag_first (grown_trans hg1 (grown_trans hg2 (grown_trans (World.grownBy_alloc _ _ _) (grown_trans hg3 G6))))); obtain ⟨d0, d1, d2⟩ := tag_cells HB.out; obtain ⟨f0, f1, f2⟩ := tag_frozen HB.out)))
          have hb := tag_put HB.out (x' := .int .u64 0) (y' := .bool false) (z' := .int .i64 0)
          obtain ⟨k0, k1, k2⟩ := tag_cells hb
          refine bodyPost_ret (v := .tuple #[.agg #[.int .u64 0, .bool false, .int .i64 0], .int .i64 12]) (by simp [results, Tryz.results160, go_sem, k0, k1, k2]) rfl ?_
          exact ⟨rfl, tag_grown (grown_trans G2a (grown_trans hg3 G6)) (Nat.le_refl _)⟩
        · go_enter Tryz.func160, Tryz.ntmps160
          go_wp2_with (first | (go_at_call 66; ((with_reducible refine (hload _ hg0).mono ?_); rintro e w1 ⟨rfl, hg1⟩)) | (go_at_call 162; ((with_reducible refine (hun _).mono ?_); rintro e w2 ⟨rfl, hg2⟩; have G2 := grown_trans hg0 (grown_trans hg1 hg2); have G2a := grown_trans G2 (World.grownBy_alloc w2 (.cells #[.int .u64 (s2 : Nat), .bool u2, .int .i64 (o : Nat)] 126) none))) | (go_at_call 190; ((with_reducible refine (hin _ G2a).mono ?_); rintro e w3 ⟨rfl, hg3⟩; have HX := Lib.hid (tag_first hg3); obtain ⟨x0, x1, x2⟩ := tag_cells HX.out)) | (go_at_call 191; ((with_reducible refine (hla _).mono ?_); rintro e w4 ⟨rfl, rfl⟩)) | (go_at_call 66; ((with_reducible refine (hload2 _ (grown_trans G2a hg3)).mono ?_); rintro e w5 ⟨rfl, hg5⟩)) | (go_at_call 162; ((with_reducible refine (hun2 _).mono ?_); rintro e w6 ⟨rfl, hg6⟩; have G6 := grown_trans hg5 (grown_trans hg6 (World.grownBy_alloc w6 (.cells #[.int .u64 (s2 : Nat), .bool u2, .int .i64 (o2 : Nat)] 126) none)); have HX6 := Lib.hid ((G6.block _ (lt_of_block HX.out) (by simp)).trans HX.out); obtain ⟨y0, y1, y2⟩ := tag_cells HX6.out; have HB := Lib.hid (tag_first (grown_trans hg1 (grown_trans hg2 (grown_trans (World.grownBy_alloc _ _ _) (grown_trans hg3 G6))))); obtain ⟨d0, d1, d2⟩ := tag_cells HB.out; obtain ⟨f0, f1, f2⟩ := tag_frozen HB.out)))
          have hb := tag_put HB.out (x' := .int .u64 0) (y' := .bool false) (z' := .int .i64 0)
          obtain ⟨k0, k1, k2⟩ := tag_cells hb
          refine bodyPost_ret (v := .tuple #[.agg #[.int .u64 0, .bool false, .int .i64 0], .int .i64 12]) (by simp [results, Tryz.results160, go_sem, k0, k1, k2]) rfl ?_
          exact ⟨rfl, tag_grown (grown_trans G2a (grown_trans hg3 G6)) (Nat.le_refl _)⟩
    · have hr := rd_no (f := f) (off := off) (fun hr => hi (by have := hr.2.1; rw [hx] at this; exact this))
      rw [hr.1, hr.2.1, hr.2.2.1, hr.2.2.2]
      rw [decide_eq_false hi] at hin
      clear hm hi hr hf hx h hlt
      go_enter Tryz.func160, Tryz.ntmps160
      go_wp2_with (first | (go_at_call 66; ((with_reducible refine (hload _ hg0).mono ?_); rintro e w1 ⟨rfl, hg1⟩)) | (go_at_call 162; ((with_reducible refine (hun _).mono ?_); rintro e w2 ⟨rfl, hg2⟩; have G2 := grown_trans hg0 (grown_trans hg1 hg2); have G2a := grown_trans G2 (World.grownBy_alloc w2 (.cells #[.int .u64 (usz x : Nat), .bool (uus x), .int .i64 (uow x : Nat)] 126) none))) | (go_at_call 190; ((with_reducible refine (hin _ G2a).mono ?_); rintro e w3 ⟨rfl, hg3⟩; have HB := Lib.hid (tag_first (grown_trans hg1 (grown_trans hg2 (grown_trans (World.grownBy_alloc _ _ _) hg3)))); obtain ⟨d0, d1, d2⟩ := tag_cells HB.out; obtain ⟨f0, f1, f2⟩ := tag_frozen HB.out)))
      have hb := tag_put HB.out (x' := .int .u64 0) (y' := .bool false) (z' := .int .i64 0)
      obtain ⟨k0, k1, k2⟩ := tag_cells hb
      refine bodyPost_ret (v := .tuple #[.agg #[.int .u64 0, .bool false, .int .i64 0], .int .i64 12]) (by simp [results, Tryz.results160, go_sem, k0, k1, k2]) rfl ?_
      exact ⟨rfl, tag_grown (grown_trans G2a hg3) (Nat.le_refl _)⟩
  · have hr := rd_no (f := f) (off := off) (fun hr => hm (by rw [← hx]; exact hr.1))
    rw [hr.1, hr.2.1, hr.2.2.1, hr.2.2.2]
    rw [decide_eq_false hm] at hun
    clear hm hr hf hx h hlt hin
    go_enter Tryz.func160, Tryz.ntmps160
    go_wp2_with (first | (go_at_call 66; ((with_reducible refine (hload _ hg0).mono ?_); rintro e w1 ⟨rfl, hg1⟩)) | (go_at_call 162; ((with_reducible refine (hun _).mono ?_); rintro e w2 ⟨rfl, hg2⟩; have HB := Lib.hid (tag_first (grown_trans hg1 (grown_trans hg2 (World.grownBy_alloc w2 (.cells #[.int .u64 (tS x : Nat), .bool (tU x), .int .i64 (tO x : Nat)] 126) none)))); obtain ⟨d0, d1, d2⟩ := tag_cells HB.out; obtain ⟨f0, f1, f2⟩ := tag_frozen HB.out)))
    have hb := tag_put HB.out (x' := .int .u64 0) (y' := .bool false) (z' := .int .i64 0)
    obtain ⟨k0, k1, k2⟩ := tag_cells hb
    refine bodyPost_ret (v := .tuple #[.agg #[.int .u64 0, .bool false, .int .i64 0], .int .i64 12]) (by simp [results, Tryz.results160, go_sem, k0, k1, k2]) rfl ?_
    exact ⟨rfl, tag_grown (grown_trans hg0 (grown_trans hg1 (grown_trans hg2 (World.grownBy_alloc _ _ _)))) (Nat.le_refl _)⟩
end
end Go.Proofs.YtmcnpenihoaajaaGreat
namespace Go.Proofs.YtmcnpenihoaajaaGreat
open Go.RowKit
section
variable {w : World} {base : Nat} {wv pv : Value} {ws : List Nat} {l : List (Nat × Nat)}
theorem two_cells {w : World} {b : Nat} {x y : Value} {t : TypeId} (h : w.heap[b]? = some (.cells #[x, y] t (0, 0))) : w.cell? ⟨b, 0, none⟩ = some x ∧ w.cell? ⟨b, 1, none⟩ = some y := by
  exact ⟨by simp [World.cell?, h], by simp [World.cell?, h]⟩
end
end Go.Proofs.YtmcnpenihoaajaaGreat
namespace Go.Proofs.YtmcnpenihoaajaaGreat
open Go.RowKit
def fmt48 (n : Nat) : List Nat := fmt (List.replicate 600 0) n
theorem fmt48_len (n : Nat) : (fmt48 n).length = 600 := len48 n
end Go.Proofs.YtmcnpenihoaajaaGreat
namespace Go.Proofs.YtmcnpenihoaajaaGreat
open Go.RowKit
theorem see_stored {ws : List Nat} {l : List (Nat × Nat)} {off v : Nat} (hs : stands ws off) (x : Nat) : txSee ws (txStore ws l off v) x = if x = off then v else txSee ws l x := by
  unfold txSee txStore
  rw [if_pos hs, txGet_set]
  by_cases e : x = off
  · rw [if_pos e, if_pos e]; rfl
  · rw [if_neg e, if_neg e]
theorem stands48 {n off : Nat} (h1 : off % 8 = 0) (h2 : off < 4800) : stands (fmt48 n) off := by
  unfold stands
  rw [fmt48_len]
  omega
end Go.Proofs.YtmcnpenihoaajaaGreat
namespace Go.Proofs.YtmcnpenihoaajaaGreat
open Go.RowKit
theorem unpack_pack {s : Nat} {u : Bool} {m : Nat} (h : mayP s u m) : packN s u m < 18446744073709551616 ∧ mayW (packN s u m) ∧ usz (packN s u m) = s ∧ uus (packN s u m) = u ∧ uow (packN s u m) = m := by
  have hm := h
  unfold mayP at hm
  have e : packN s u m = m * 4294967296 + s + (if u then 1 else 0) := by
    have := (if_pos h : packN s u m = (m : Int).toNat * 4294967296 + s + (if u then 1 else 0))
    rwa [Int.toNat_natCast] at this
  have hs : usz (packN s u m) = s := by rw [e]; unfold usz; cases u <;> simp only [if_true, if_false, Bool.false_eq_true] <;> omega
  have hu : uus (packN s u m) = u := by
    rw [e]
    unfold uus
    cases u
    · rw [decide_eq_false]; simp only [if_false, Bool.false_eq_true]; omega
    · rw [decide_eq_true]; simp only [if_true]; omega
  have ho : uow (packN s u m) = m := by rw [e]; unfold uow; cases u <;> simp only [if_true, if_false, Bool.false_eq_true] <;> omega
  refine ⟨?_, ?_, hs, hu, ho⟩
  · rw [e]; cases u <;> simp only [if_true, if_false, Bool.false_eq_true] <;> omega
  · unfold mayW
    rw [hs, hu, ho]
    exact h
section
variable {F : Nat → Nat} {off s : Nat} {u : Bool} {m : Nat}
end
section
variable {ws : List Nat} {off s b p : Nat} {l : List (Nat × Nat)} {u : Bool} {m : Nat}
end
end Go.Proofs.YtmcnpenihoaajaaGreat
