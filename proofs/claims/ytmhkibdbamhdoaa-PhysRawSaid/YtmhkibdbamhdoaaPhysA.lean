/-
  Package phys: a block where words stand, as plain mathematics; the contract of read.
  Conditions: the Tx stands in memory; the offset is a number of 64 bits.
-/
import Derived.Test.YtmhkibdbamhdoaaLTag
import Derived.Test.YtmhkibdbamhdoaaLWord
namespace Go.Proofs.Ytmhkibdbamhdoaa
open Go.RowKit
set_option linter.unusedVariables false
set_option linter.unusedSimpArgs false

/-- a block: where it stands, its tag, and how many bytes it has -/
structure Blk where
  off : Nat
  s : Nat
  u : Bool
  o : Int
  n : Nat
deriving DecidableEq
instance : Inhabited Blk := ⟨⟨0, 0, false, 0, 0⟩⟩
def Blk.row (b : Blk) : List Value := [.int .u64 (b.off : Nat), .int .u64 (b.s : Nat), .bool b.u, .int .i64 b.o, .int .u64 (b.n : Nat)]
def Blk.none : Blk := ⟨0, 0, false, 0, 0⟩
/-- does a whole block stand at off? -/
def bkP (f : Nat → Nat) (off : Nat) : Prop := rdP f off ∧ (uus (f off) = true → f (off + 8) + 40 ≤ usz (f off))
instance (f : Nat → Nat) (off : Nat) : Decidable (bkP f off) := by unfold bkP; infer_instance
def bkL (f : Nat → Nat) (off : Nat) : Nat := if uus (f off) = true then f (off + 8) else 0
def bkAt (f : Nat → Nat) (off : Nat) : Blk := ⟨off, usz (f off), uus (f off), uow (f off), bkL f off⟩
def bkR (f : Nat → Nat) (off : Nat) : Blk := if bkP f off then bkAt f off else Blk.none
def bkE (f : Nat → Nat) (off : Nat) : Nat := if bkP f off then 0 else 12
theorem bk_yes {f : Nat → Nat} {off : Nat} (h : bkP f off) : bkR f off = bkAt f off ∧ bkE f off = 0 := ⟨if_pos h, if_pos h⟩
theorem bk_no {f : Nat → Nat} {off : Nat} (h : ¬ bkP f off) : bkR f off = Blk.none ∧ bkE f off = 12 := ⟨if_neg h, if_neg h⟩
theorem need_leq {n s : Nat} (h : s % 16 = 0) (h48 : 48 ≤ s) : needOf n ≤ s ↔ n + 40 ≤ s := by
  unfold needOf
  split <;> omega
/-! a block of five cells -/
section
variable {w w' : World} {b : Nat} {x y z p q x' y' z' p' q' : Value} {t : TypeId}
theorem five_cells (h : w.heap[b]? = some (.cells #[x, y, z, p, q] t (0, 0))) : w.cell? ⟨b, 0, none⟩ = some x ∧ w.cell? ⟨b, 1, none⟩ = some y ∧ w.cell? ⟨b, 2, none⟩ = some z ∧ w.cell? ⟨b, 3, none⟩ = some p ∧ w.cell? ⟨b, 4, none⟩ = some q :=
  ⟨by simp [World.cell?, h], by simp [World.cell?, h], by simp [World.cell?, h], by simp [World.cell?, h], by simp [World.cell?, h]⟩
theorem five_frozen (h : w.heap[b]? = some (.cells #[x, y, z, p, q] t (0, 0))) : w.frozen? ⟨b, 0, none⟩ = false ∧ w.frozen? ⟨b, 1, none⟩ = false ∧ w.frozen? ⟨b, 2, none⟩ = false ∧ w.frozen? ⟨b, 3, none⟩ = false ∧ w.frozen? ⟨b, 4, none⟩ = false :=
  ⟨by simp [World.frozen?, h], by simp [World.frozen?, h], by simp [World.frozen?, h], by simp [World.frozen?, h], by simp [World.frozen?, h]⟩
theorem five_first (hg : (w.alloc (.cells #[x, y, z, p, q] t)).grownBy w' none) : w'.heap[w.heap.size]? = some (.cells #[x, y, z, p, q] t (0, 0)) := by
  have h1 : (w.alloc (.cells #[x, y, z, p, q] t)).heap[w.heap.size]? = some (.cells #[x, y, z, p, q] t (0, 0)) := heap_alloc_new' _ _
  exact (hg.block _ (lt_of_block h1) (by simp)).trans h1
theorem five_put (h : w.heap[b]? = some (.cells #[x, y, z, p, q] t (0, 0))) : (((((w.setCell ⟨b, 0, none⟩ x').setCell ⟨b, 1, none⟩ y').setCell ⟨b, 2, none⟩ z').setCell ⟨b, 3, none⟩ p').setCell ⟨b, 4, none⟩ q').heap[b]? = some (.cells #[x', y', z', p', q'] t (0, 0)) := by
  rw [heap_setCell_same (heap_setCell_same (heap_setCell_same (heap_setCell_same (heap_setCell_same h x') y') z') p') q']; rfl
theorem five_grown {w0 : World} (h : w0.grownBy w none) (hb : w0.heap.size ≤ b) : w0.grownBy (((((w.setCell ⟨b, 0, none⟩ x').setCell ⟨b, 1, none⟩ y').setCell ⟨b, 2, none⟩ z').setCell ⟨b, 3, none⟩ p').setCell ⟨b, 4, none⟩ q') none :=
  grown_new (grown_trans (grown_any h _) (grown_trans (grown_set _ _ _ _) (grown_trans (grown_set _ _ _ _) (grown_trans (grown_set _ _ _ _) (grown_trans (grown_set _ _ _ _) (grown_set _ _ _ _)))))) hb
end
section
variable {w : World} {T M : Nat} {R : Option Nat} {B D : Nat} {ws : List Nat} {l : List (Nat × Nat)}
set_option maxHeartbeats 4000000 in
theorem pread_any (h : Thinks w T M R B D ws l) (off : Nat) (ho : off < 18446744073709551616) :
    Calls Try.prog 50 #[.pointer (some ⟨T, 0, none⟩), .int .u64 off] w fun e w' => e = .returned (.tuple #[.agg (bkR (txSee ws l) off).row.toArray, .int .i64 (bkE (txSee ws l) off : Nat)]) ∧ w.grownBy w' none := by
  have hrd := fun (w1 : World) (hg : w.grownBy w1 none) => tread_any (h.later hg) off ho
  have hlt := txSee_lt h.seg.words h.ok
  have hg0 : w.grownBy (w.alloc (.cells #[.int .u64 0, .int .u64 0, .bool false, .int .i64 0, .int .u64 0] 42)) none := World.grownBy_alloc _ _ _
  by_cases hr : rdP (txSee ws l) off
  · obtain ⟨r1, r2, r3, r4⟩ := rd_yes hr
    rw [r1, r2, r3, r4] at hrd
    have hb48 := mayW_size hr.1
    obtain ⟨s, es⟩ : ∃ s, usz (txSee ws l off) = s := ⟨_, rfl⟩
    obtain ⟨o, eo⟩ : ∃ o, uow (txSee ws l off) = o := ⟨_, rfl⟩
    by_cases hu : uus (txSee ws l off) = true
    · have hin := hr.2.1
      have h16 := hlt 16
      obtain ⟨b, hb⟩ : ∃ b, off + 8 = b := ⟨_, rfl⟩
      have hb64 : b < 18446744073709551616 := by unfold inP at hin; omega
      have e8 : IntKind.u64.wrap ((off : Int) + 8) = (b : Nat) := by rw [IntKind.wrap_u64]; omega
      have hload := fun (w1 : World) (hg : w.grownBy w1 none) => txload_any (h.later hg) b hb64
      have hn64 := hlt b
      obtain ⟨n, en⟩ : ∃ n, txSee ws l b = n := ⟨_, rfl⟩
      rw [en] at hload hn64
      rw [es] at hb48 hrd
      rw [eo] at hrd
      rw [hu] at hrd
      have hbk : bkP (txSee ws l) off ↔ n + 40 ≤ s := by
        unfold bkP
        rw [hb, en, es]
        exact ⟨fun h => h.2 hu, fun h => ⟨hr, fun _ => h⟩⟩
      by_cases hfit : n + 40 ≤ s
      · have hneed := fun w => need_fits n (by omega) w
        have hle : ¬ (s : Int) < (needOf n : Nat) := by have := (need_leq hb48.2.2.1 hb48.1).2 hfit; omega
        rw [(bk_yes (hbk.2 hfit)).1, (bk_yes (hbk.2 hfit)).2]
        unfold bkAt bkL
        rw [if_pos hu, hu, hb, en, es, eo]
        obtain ⟨m, em⟩ : ∃ m, needOf n = m := ⟨_, rfl⟩
        rw [em] at hle
        simp only [em] at hneed
        clear r1 r2 r3 r4 hr hlt hbk hfit em en hu es eo hin h16 hb hb48 hn64
        go_enter Try.func50, Try.ntmps50
        go_wp2_with (first | (go_at_call 73; ((with_reducible refine (hrd _ hg0).mono ?_); rintro e w1 ⟨rfl, hg1⟩; have hga := World.grownBy_alloc w1 (.cells #[.int .u64 s, .bool true, .int .i64 o] 40) none; have G1 := grown_trans hg0 (grown_trans hg1 hga); obtain ⟨x0, x1, x2⟩ := tag_cells (tag_first (grown_refl (w1.alloc (.cells #[.int .u64 s, .bool true, .int .i64 o] 40)) none)))) | (go_at_call 48; ((with_reducible refine (hload _ G1).mono ?_); rintro e w2 ⟨rfl, hg2⟩)) | (go_at_call 74; ((with_reducible refine (hneed _).mono ?_); rintro e w3 ⟨rfl, rfl⟩; obtain ⟨x0, x1, x2⟩ := tag_cells (tag_first hg2); have HB := Lib.hid (five_first (grown_trans hg1 (grown_trans hga hg2))); obtain ⟨d0, d1, d2, d3, d4⟩ := five_cells HB.out; obtain ⟨f0, f1, f2, f3, f4⟩ := five_frozen HB.out)))
        have hb := five_put HB.out (x' := .int .u64 off) (y' := .int .u64 s) (z' := .bool true) (p' := .int .i64 o) (q' := .int .u64 n)
        obtain ⟨k0, k1, k2, k3, k4⟩ := five_cells hb
        refine bodyPost_ret (v := .tuple #[.agg #[.int .u64 off, .int .u64 s, .bool true, .int .i64 o, .int .u64 n], .int .i64 0]) (by simp [results, Try.results50, go_sem, k0, k1, k2, k3, k4]) rfl ?_
        exact ⟨rfl, five_grown (grown_trans G1 hg2) (by omega)⟩
      · rw [(bk_no (fun h => hfit (hbk.1 h))).1, (bk_no (fun h => hfit (hbk.1 h))).2]
        by_cases hbig : n + 55 < 18446744073709551616
        · have hneed := fun w => need_fits n hbig w
          have hle : (s : Int) < (needOf n : Nat) := by have := mt (need_leq (n := n) hb48.2.2.1 hb48.1).1 hfit; omega
          obtain ⟨m, em⟩ : ∃ m, needOf n = m := ⟨_, rfl⟩
          rw [em] at hle
          simp only [em] at hneed
          clear r1 r2 r3 r4 hr hlt hbk hfit em en hu es eo hin h16 hb hb48 hn64 hbig
          go_enter Try.func50, Try.ntmps50
          go_wp2_with (first | (go_at_call 73; ((with_reducible refine (hrd _ hg0).mono ?_); rintro e w1 ⟨rfl, hg1⟩; have hga := World.grownBy_alloc w1 (.cells #[.int .u64 s, .bool true, .int .i64 o] 40) none; have G1 := grown_trans hg0 (grown_trans hg1 hga); obtain ⟨x0, x1, x2⟩ := tag_cells (tag_first (grown_refl (w1.alloc (.cells #[.int .u64 s, .bool true, .int .i64 o] 40)) none)))) | (go_at_call 48; ((with_reducible refine (hload _ G1).mono ?_); rintro e w2 ⟨rfl, hg2⟩)) | (go_at_call 74; ((with_reducible refine (hneed _).mono ?_); rintro e w3 ⟨rfl, rfl⟩; obtain ⟨x0, x1, x2⟩ := tag_cells (tag_first hg2); have HB := Lib.hid (five_first (grown_trans hg1 (grown_trans hga hg2))); obtain ⟨d0, d1, d2, d3, d4⟩ := five_cells HB.out; obtain ⟨f0, f1, f2, f3, f4⟩ := five_frozen HB.out)))
          have hb := five_put HB.out (x' := .int .u64 0) (y' := .int .u64 0) (z' := .bool false) (p' := .int .i64 0) (q' := .int .u64 0)
          obtain ⟨k0, k1, k2, k3, k4⟩ := five_cells hb
          refine bodyPost_ret (v := .tuple #[.agg #[.int .u64 0, .int .u64 0, .bool false, .int .i64 0, .int .u64 0], .int .i64 12]) (by simp [results, Try.results50, go_sem, k0, k1, k2, k3, k4]) rfl ?_
          exact ⟨rfl, five_grown (grown_trans G1 hg2) (by omega)⟩
        · have hneed := fun w => need_high n hn64 (by omega) w
          clear r1 r2 r3 r4 hr hlt hbk hfit en hu es eo hin h16 hb hb48 hn64 hbig
          go_enter Try.func50, Try.ntmps50
          go_wp2_with (first | (go_at_call 73; ((with_reducible refine (hrd _ hg0).mono ?_); rintro e w1 ⟨rfl, hg1⟩; have hga := World.grownBy_alloc w1 (.cells #[.int .u64 s, .bool true, .int .i64 o] 40) none; have G1 := grown_trans hg0 (grown_trans hg1 hga); obtain ⟨x0, x1, x2⟩ := tag_cells (tag_first (grown_refl (w1.alloc (.cells #[.int .u64 s, .bool true, .int .i64 o] 40)) none)))) | (go_at_call 48; ((with_reducible refine (hload _ G1).mono ?_); rintro e w2 ⟨rfl, hg2⟩)) | (go_at_call 74; ((with_reducible refine (hneed _).mono ?_); rintro e w3 ⟨rfl, rfl⟩; obtain ⟨x0, x1, x2⟩ := tag_cells (tag_first hg2); have HB := Lib.hid (five_first (grown_trans hg1 (grown_trans hga hg2))); obtain ⟨d0, d1, d2, d3, d4⟩ := five_cells HB.out; obtain ⟨f0, f1, f2, f3, f4⟩ := five_frozen HB.out)))
          have hb := five_put HB.out (x' := .int .u64 0) (y' := .int .u64 0) (z' := .bool false) (p' := .int .i64 0) (q' := .int .u64 0)
          obtain ⟨k0, k1, k2, k3, k4⟩ := five_cells hb
          refine bodyPost_ret (v := .tuple #[.agg #[.int .u64 0, .int .u64 0, .bool false, .int .i64 0, .int .u64 0], .int .i64 12]) (by simp [results, Try.results50, go_sem, k0, k1, k2, k3, k4]) rfl ?_
          exact ⟨rfl, five_grown (grown_trans G1 hg2) (by omega)⟩
    · have hb : bkP (txSee ws l) off := ⟨hr, fun h => absurd h hu⟩
      rw [(bk_yes hb).1, (bk_yes hb).2]
      unfold bkAt bkL
      rw [if_neg hu]
      simp only [Bool.not_eq_true] at hu
      rw [hu] at hrd ⊢
      rw [es, eo] at hrd ⊢
      clear r1 r2 r3 r4 hb hr hlt hb48 es eo hu
      go_enter Try.func50, Try.ntmps50
      go_wp2_with (first | (go_at_call 73; ((with_reducible refine (hrd _ hg0).mono ?_); rintro e w1 ⟨rfl, hg1⟩; have hga := World.grownBy_alloc w1 (.cells #[.int .u64 s, .bool false, .int .i64 o] 40) none; have G1 := grown_trans hg0 (grown_trans hg1 hga); obtain ⟨x0, x1, x2⟩ := tag_cells (tag_first (grown_refl (w1.alloc (.cells #[.int .u64 s, .bool false, .int .i64 o] 40)) none)); have HB := Lib.hid (five_first (grown_trans hg1 hga)); obtain ⟨d0, d1, d2, d3, d4⟩ := five_cells HB.out; obtain ⟨f0, f1, f2, f3, f4⟩ := five_frozen HB.out)))
      have hb := five_put HB.out (x' := .int .u64 off) (y' := .int .u64 s) (z' := .bool false) (p' := .int .i64 o) (q' := .int .u64 0)
      obtain ⟨k0, k1, k2, k3, k4⟩ := five_cells hb
      refine bodyPost_ret (v := .tuple #[.agg #[.int .u64 off, .int .u64 s, .bool false, .int .i64 o, .int .u64 0], .int .i64 0]) (by simp [results, Try.results50, go_sem, k0, k1, k2, k3, k4]) rfl ?_
      exact ⟨rfl, five_grown G1 (by omega)⟩
  · obtain ⟨r1, r2, r3, r4⟩ := rd_no hr
    rw [r1, r2, r3, r4] at hrd
    have hb : ¬ bkP (txSee ws l) off := fun h => hr h.1
    rw [(bk_no hb).1, (bk_no hb).2]
    clear r1 r2 r3 r4 hb hr hlt
    go_enter Try.func50, Try.ntmps50
    go_wp2_with (first | (go_at_call 73; ((with_reducible refine (hrd _ hg0).mono ?_); rintro e w1 ⟨rfl, hg1⟩; have hga := World.grownBy_alloc w1 (.cells #[.int .u64 0, .bool false, .int .i64 0] 40) none; have G1 := grown_trans hg0 (grown_trans hg1 hga); obtain ⟨x0, x1, x2⟩ := tag_cells (tag_first (grown_refl (w1.alloc (.cells #[.int .u64 0, .bool false, .int .i64 0] 40)) none)); have HB := Lib.hid (five_first (grown_trans hg1 hga)); obtain ⟨d0, d1, d2, d3, d4⟩ := five_cells HB.out; obtain ⟨f0, f1, f2, f3, f4⟩ := five_frozen HB.out)))
    have hb := five_put HB.out (x' := .int .u64 0) (y' := .int .u64 0) (z' := .bool false) (p' := .int .i64 0) (q' := .int .u64 0)
    obtain ⟨k0, k1, k2, k3, k4⟩ := five_cells hb
    refine bodyPost_ret (v := .tuple #[.agg #[.int .u64 0, .int .u64 0, .bool false, .int .i64 0, .int .u64 0], .int .i64 12]) (by simp [results, Try.results50, go_sem, k0, k1, k2, k3, k4]) rfl ?_
    exact ⟨rfl, five_grown G1 (by omega)⟩
end
end Go.Proofs.Ytmhkibdbamhdoaa
