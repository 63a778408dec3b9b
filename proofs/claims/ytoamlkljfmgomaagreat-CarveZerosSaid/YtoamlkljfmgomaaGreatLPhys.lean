/-
  The texts of this claim that speak of one layer, one behind the other: each says ahead of it what it holds, and under which conditions.
-/
import Derived.Test.YtoamlkljfmgomaaGreatLTag
import Derived.Test.YtoamlkljfmgomaaGreatLWord
import Derived.Test.YtoamlkljfmgomaaGreatLTx
import Derived.Test.YtoamlkljfmgomaaGreatLHead
/-
  Package phys: a block where words stand, as plain mathematics; the contract of read.
  Conditions: the Tx stands in memory; the offset is a number of 64 bits.
-/
namespace Go.Proofs.YtoamlkljfmgomaaGreat
open Go.RowKit
set_option linter.unusedVariables false
set_option linter.unusedSimpArgs false

/-- a block: where it stands, its tag, and how many bytes it has -/
structure Blk where
  off : Nat
  s : Nat
  u : Bool
  o : Int
  n : Nat
deriving DecidableEq
instance : Inhabited Blk := ⟨⟨0, 0, false, 0, 0⟩⟩
def Blk.row (b : Blk) : List Value := [.int .u64 (b.off : Nat), .int .u64 (b.s : Nat), .bool b.u, .int .i64 b.o, .int .u64 (b.n : Nat)]
def Blk.none : Blk := ⟨0, 0, false, 0, 0⟩
/-- does a whole block stand at off? -/
def bkP (f : Nat → Nat) (off : Nat) : Prop := rdP f off ∧ (uus (f off) = true → f (off + 8) + 40 ≤ usz (f off))
instance (f : Nat → Nat) (off : Nat) : Decidable (bkP f off) := by unfold bkP; infer_instance
def bkL (f : Nat → Nat) (off : Nat) : Nat := if uus (f off) = true then f (off + 8) else 0
def bkAt (f : Nat → Nat) (off : Nat) : Blk := ⟨off, usz (f off), uus (f off), uow (f off), bkL f off⟩
def bkR (f : Nat → Nat) (off : Nat) : Blk := if bkP f off then bkAt f off else Blk.none
def bkE (f : Nat → Nat) (off : Nat) : Nat := if bkP f off then 0 else 12
theorem bk_yes {f : Nat → Nat} {off : Nat} (h : bkP f off) : bkR f off = bkAt f off ∧ bkE f off = 0 := ⟨if_pos h, if_pos h⟩
theorem bk_no {f : Nat → Nat} {off : Nat} (h : ¬ bkP f off) : bkR f off = Blk.none ∧ bkE f off = 12 := ⟨if_neg h, if_neg h⟩
theorem need_leq {n s : Nat} (h : s % 16 = 0) (h48 : 48 ≤ s) : needOf n ≤ s ↔ n + 40 ≤ s := by
  unfold needOf
  split <;> omega
/-! a block of five cells -/
section
variable {w w' : World} {b : Nat} {x y z p q x' y' z' p' q' : Value} {t : TypeId}
theorem five_cells (h : w.heap[b]? = some (.cells #[x, y, z, p, q] t (0, 0))) : w.cell? ⟨b, 0, none⟩ = some x ∧ w.cell? ⟨b, 1, none⟩ = some y ∧ w.cell? ⟨b, 2, none⟩ = some z ∧ w.cell? ⟨b, 3, none⟩ = some p ∧ w.cell? ⟨b, 4, none⟩ = some q :=
  ⟨by simp [World.cell?, h], by simp [World.cell?, h], by simp [World.cell?, h], by simp [World.cell?, h], by simp [World.cell?, h]⟩
theorem five_frozen (h : w.heap[b]? = some (.cells #[x, y, z, p, q] t (0, 0))) : w.frozen? ⟨b, 0, none⟩ = false ∧ w.frozen? ⟨b, 1, none⟩ = false ∧ w.frozen? ⟨b, 2, none⟩ = false ∧ w.frozen? ⟨b, 3, none⟩ = false ∧ w.frozen? ⟨b, 4, none⟩ = false :=
  ⟨by simp [World.frozen?, h], by simp [World.frozen?, h], by simp [World.frozen?, h], by simp [World.frozen?, h], by simp [World.frozen?, h]⟩
theorem five_first (hg : (w.alloc (.cells #[x, y, z, p, q] t)).grownBy w' none) : w'.heap[w.heap.size]? = some (.cells #[x, y, z, p, q] t (0, 0)) := by
  have h1 : (w.alloc (.cells #[x, y, z, p, q] t)).heap[w.heap.size]? = some (.cells #[x, y, z, p, q] t (0, 0)) := heap_alloc_new' _ _
  exact (hg.block _ (lt_of_block h1) (by simp)).trans h1
theorem five_put (h : w.heap[b]? = some (.cells #[x, y, z, p, q] t (0, 0))) : (((((w.setCell ⟨b, 0, none⟩ x').setCell ⟨b, 1, none⟩ y').setCell ⟨b, 2, none⟩ z').setCell ⟨b, 3, none⟩ p').setCell ⟨b, 4, none⟩ q').heap[b]? = some (.cells #[x', y', z', p', q'] t (0, 0)) := by
  rw [heap_setCell_same (heap_setCell_same (heap_setCell_same (heap_setCell_same (heap_setCell_same h x') y') z') p') q']; rfl
theorem five_grown {w0 : World} (h : w0.grownBy w none) (hb : w0.heap.size ≤ b) : w0.grownBy (((((w.setCell ⟨b, 0, none⟩ x').setCell ⟨b, 1, none⟩ y').setCell ⟨b, 2, none⟩ z').setCell ⟨b, 3, none⟩ p').setCell ⟨b, 4, none⟩ q') none :=
  grown_new (grown_trans (grown_any h _) (grown_trans (grown_set _ _ _ _) (grown_trans (grown_set _ _ _ _) (grown_trans (grown_set _ _ _ _) (grown_trans (grown_set _ _ _ _) (grown_set _ _ _ _)))))) hb
end
section
variable {w : World} {T M : Nat} {R : Option Nat} {B D : Nat} {ws : List Nat} {l : List (Nat × Nat)}
set_option maxHeartbeats 4000000 in
theorem pread_any (h : Thinks w T M R B D ws l) (off : Nat) (ho : off < 18446744073709551616) :
    Calls Tryz.prog 95 #[.pointer (some ⟨T, 0, none⟩), .int .u64 off] w fun e w' => e = .returned (.tuple #[.agg (bkR (txSee ws l) off).row.toArray, .int .i64 (bkE (txSee ws l) off : Nat)]) ∧ w.grownBy w' none := by
  have hrd := fun (w1 : World) (hg : w.grownBy w1 none) => tread_any (h.later hg) off ho
  have hlt := txSee_lt h.seg.words h.ok
  have hg0 : w.grownBy (w.alloc (.cells #[.int .u64 0, .int .u64 0, .bool false, .int .i64 0, .int .u64 0] 66)) none := World.grownBy_alloc _ _ _
  by_cases hr : rdP (txSee ws l) off
  · obtain ⟨r1, r2, r3, r4⟩ := rd_yes hr
    rw [r1, r2, r3, r4] at hrd
    have hb48 := mayW_size hr.1
    obtain ⟨s, es⟩ : ∃ s, usz (txSee ws l off) = s := ⟨_, rfl⟩
    obtain ⟨o, eo⟩ : ∃ o, uow (txSee ws l off) = o := ⟨_, rfl⟩
    by_cases hu : uus (txSee ws l off) = true
    · have hin := hr.2.1
      have h16 := hlt 16
      obtain ⟨b, hb⟩ : ∃ b, off + 8 = b := ⟨_, rfl⟩
      have hb64 : b < 18446744073709551616 := by unfold inP at hin; omega
      have e8 : IntKind.u64.wrap ((off : Int) + 8) = (b : Nat) := by rw [IntKind.wrap_u64]; omega
      have hload := fun (w1 : World) (hg : w.grownBy w1 none) => txload_any (h.later hg) b hb64
      have hn64 := hlt b
      obtain ⟨n, en⟩ : ∃ n, txSee ws l b = n := ⟨_, rfl⟩
      rw [en] at hload hn64
      rw [es] at hb48 hrd
      rw [eo] at hrd
      rw [hu] at hrd
      have hbk : bkP (txSee ws l) off ↔ n + 40 ≤ s := by
        unfold bkP
        rw [hb, en, es]
        exact ⟨fun h => h.2 hu, fun h => ⟨hr, fun _ => h⟩⟩
      by_cases hfit : n + 40 ≤ s
      · have hneed := fun w => need_fits n (by omega) w
        have hle : ¬ (s : Int) < (needOf n : Nat) := by have := (need_leq hb48.2.2.1 hb48.1).2 hfit; omega
        rw [(bk_yes (hbk.2 hfit)).1, (bk_yes (hbk.2 hfit)).2]
        unfold bkAt bkL
        rw [if_pos hu, hu, hb, en, es, eo]
        obtain ⟨m, em⟩ : ∃ m, needOf n = m := ⟨_, rfl⟩
        rw [em] at hle
        simp only [em] at hneed
        clear r1 r2 r3 r4 hr hlt hbk hfit em en hu es eo hin h16 hb hb48 hn64
        go_enter Tryz.func95, Tryz.ntmps95
        go_wp2_with (first | (go_at_call 22; ((with_reducible refine (hrd _ hg0).mono ?_); rintro e w1 ⟨rfl, hg1⟩; have hga := World.grownBy_alloc w1 (.cells #[.int .u64 s, .bool true, .int .i64 o] 64) none; have G1 := grown_trans hg0 (grown_trans hg1 hga); obtain ⟨x0, x1, x2⟩ := tag_cells (tag_first (grown_refl (w1.alloc (.cells #[.int .u64 s, .bool true, .int .i64 o] 64)) none)))) | (go_at_call 20; ((with_reducible refine (hload _ G1).mono ?_); rintro e w2 ⟨rfl, hg2⟩)) | (go_at_call 25; ((with_reducible refine (hneed _).mono ?_); rintro e w3 ⟨rfl, rfl⟩; obtain ⟨x0, x1, x2⟩ := tag_cells (tag_first hg2); have HB := Lib.hid (five_first (grown_trans hg1 (grown_trans hga hg2))); obtain ⟨d0, d1, d2, d3, d4⟩ := five_cells HB.out; obtain ⟨f0, f1, f2, f3, f4⟩ := five_frozen HB.out)))
        have hb := five_put HB.out (x' := .int .u64 off) (y' := .int .u64 s) (z' := .bool true) (p' := .int .i64 o) (q' := .int .u64 n)
        obtain ⟨k0, k1, k2, k3, k4⟩ := five_cells hb
        refine bodyPost_ret (v := .tuple #[.agg #[.int .u64 off, .int .u64 s, .bool true, .int .i64 o, .int .u64 n], .int .i64 0]) (by simp [results, Tryz.results95, go_sem, k0, k1, k2, k3, k4]) rfl ?_
        exact ⟨rfl, five_grown (grown_trans G1 hg2) (by omega)⟩
      · rw [(bk_no (fun h => hfit (hbk.1 h))).1, (bk_no (fun h => hfit (hbk.1 h))).2]
        by_cases hbig : n + 55 < 18446744073709551616
        · have hneed := fun w => need_fits n hbig w
          have hle : (s : Int) < (needOf n : Nat) := by have := mt (need_leq (n := n) hb48.2.2.1 hb48.1).1 hfit; omega
          obtain ⟨m, em⟩ : ∃ m, needOf n = m := ⟨_, rfl⟩
          rw [em] at hle
          simp only [em] at hneed
          clear r1 r2 r3 r4 hr hlt hbk hfit em en hu es eo hin h16 hb hb48 hn64 hbig
          go_enter Tryz.func95, Tryz.ntmps95
          go_wp2_with (first | (go_at_call 22; ((with_reducible refine (hrd _ hg0).mono ?_); rintro e w1 ⟨rfl, hg1⟩; have hga := World.grownBy_alloc w1 (.cells #[.int .u64 s, .bool true, .int .i64 o] 64) none; have G1 := grown_trans hg0 (grown_trans hg1 hga); obtain ⟨x0, x1, x2⟩ := tag_cells (tag_first (grown_refl (w1.alloc (.cells #[.int .u64 s, .bool true, .int .i64 o] 64)) none)))) | (go_at_call 20; ((with_reducible refine (hload _ G1).mono ?_); rintro e w2 ⟨rfl, hg2⟩)) | (go_at_call 25; ((with_reducible refine (hneed _).mono ?_); rintro e w3 ⟨rfl, rfl⟩; obtain ⟨x0, x1, x2⟩ := tag_cells (tag_first hg2); have HB := Lib.hid (five_first (grown_trans hg1 (grown_trans hga hg2))); obtain ⟨d0, d1, d2, d3, d4⟩ := five_cells HB.out; obtain ⟨f0, f1, f2, f3, f4⟩ := five_frozen HB.out)))
          have hb := five_put HB.out (x' := .int .u64 0) (y' := .int .u64 0) (z' := .bool false) (p' := .int .i64 0) (q' := .int .u64 0)
          obtain ⟨k0, k1, k2, k3, k4⟩ := five_cells hb
          refine bodyPost_ret (v := .tuple #[.agg #[.int .u64 0, .int .u64 0, .bool false, .int .i64 0, .int .u64 0], .int .i64 12]) (by simp [results, Tryz.results95, go_sem, k0, k1, k2, k3, k4]) rfl ?_
          exact ⟨rfl, five_grown (grown_trans G1 hg2) (by omega)⟩
        · have hneed := fun w => need_high n hn64 (by omega) w
          clear r1 r2 r3 r4 hr hlt hbk hfit en hu es eo hin h16 hb hb48 hn64 hbig
          go_enter Tryz.func95, Tryz.ntmps95
          go_wp2_with (first | (go_at_call 22; ((with_reducible refine (hrd _ hg0).mono ?_); rintro e w1 ⟨rfl, hg1⟩; have hga := World.grownBy_alloc w1 (.cells #[.int .u64 s, .bool true, .int .i64 o] 64) none; have G1 := grown_trans hg0 (grown_trans hg1 hga); obtain ⟨x0, x1, x2⟩ := tag_cells (tag_first (grown_refl (w1.alloc (.cells #[.int .u64 s, .bool true, .int .i64 o] 64)) none)))) | (go_at_call 20; ((with_reducible refine (hload _ G1).mono ?_); rintro e w2 ⟨rfl, hg2⟩)) | (go_at_call 25; ((with_reducible refine (hneed _).mono ?_); rintro e w3 ⟨rfl, rfl⟩; obtain ⟨x0, x1, x2⟩ := tag_cells (tag_first hg2); have HB := Lib.hid (five_first (grown_trans hg1 (grown_trans hga hg2))); obtain ⟨d0, d1, d2, d3, d4⟩ := five_cells HB.out; obtain ⟨f0, f1, f2, f3, f4⟩ := five_frozen HB.out)))
          have hb := five_put HB.out (x' := .int .u64 0) (y' := .int .u64 0) (z' := .bool false) (p' := .int .i64 0) (q' := .int .u64 0)
          obtain ⟨k0, k1, k2, k3, k4⟩ := five_cells hb
          refine bodyPost_ret (v := .tuple #[.agg #[.int .u64 0, .int .u64 0, .bool false, .int .i64 0, .int .u64 0], .int .i64 12]) (by simp [results, Tryz.results95, go_sem, k0, k1, k2, k3, k4]) rfl ?_
          exact ⟨rfl, five_grown (grown_trans G1 hg2) (by omega)⟩
    · have hb : bkP (txSee ws l) off := ⟨hr, fun h => absurd h hu⟩
      rw [(bk_yes hb).1, (bk_yes hb).2]
      unfold bkAt bkL
      rw [if_neg hu]
      simp only [Bool.not_eq_true] at hu
      rw [hu] at hrd ⊢
      rw [es, eo] at hrd ⊢
      clear r1 r2 r3 r4 hb hr hlt hb48 es eo hu
      go_enter Tryz.func95, Tryz.ntmps95
      go_wp2_with (first | (go_at_call 22; ((with_reducible refine (hrd _ hg0).mono ?_); rintro e w1 ⟨rfl, hg1⟩; have hga := World.grownBy_alloc w1 (.cells #[.int .u64 s, .bool false, .int .i64 o] 64) none; have G1 := grown_trans hg0 (grown_trans hg1 hga); obtain ⟨x0, x1, x2⟩ := tag_cells (tag_first (grown_refl (w1.alloc (.cells #[.int .u64 s, .bool false, .int .i64 o] 64)) none)); have HB := Lib.hid (five_first (grown_trans hg1 hga)); obtain ⟨d0, d1, d2, d3, d4⟩ := five_cells HB.out; obtain ⟨f0, f1, f2, f3, f4⟩ := five_frozen HB.out)))
      have hb := five_put HB.out (x' := .int .u64 off) (y' := .int .u64 s) (z' := .bool false) (p' := .int .i64 o) (q' := .int .u64 0)
      obtain ⟨k0, k1, k2, k3, k4⟩ := five_cells hb
      refine bodyPost_ret (v := .tuple #[.agg #[.int .u64 off, .int .u64 s, .bool false, .int .i64 o, .int .u64 0], .int .i64 0]) (by simp [results, Tryz.results95, go_sem, k0, k1, k2, k3, k4]) rfl ?_
      exact ⟨rfl, five_grown G1 (by omega)⟩
  · obtain ⟨r1, r2, r3, r4⟩ := rd_no hr
    rw [r1, r2, r3, r4] at hrd
    have hb : ¬ bkP (txSee ws l) off := fun h => hr h.1
    rw [(bk_no hb).1, (bk_no hb).2]
    clear r1 r2 r3 r4 hb hr hlt
    go_enter Tryz.func95, Tryz.ntmps95
    go_wp2_with (first | (go_at_call 22; ((with_reducible refine (hrd _ hg0).mono ?_); rintro e w1 ⟨rfl, hg1⟩; have hga := World.grownBy_alloc w1 (.cells #[.int .u64 0, .bool false, .int .i64 0] 64) none; have G1 := grown_trans hg0 (grown_trans hg1 hga); obtain ⟨x0, x1, x2⟩ := tag_cells (tag_first (grown_refl (w1.alloc (.cells #[.int .u64 0, .bool false, .int .i64 0] 64)) none)); have HB := Lib.hid (five_first (grown_trans hg1 hga)); obtain ⟨d0, d1, d2, d3, d4⟩ := five_cells HB.out; obtain ⟨f0, f1, f2, f3, f4⟩ := five_frozen HB.out)))
    have hb := five_put HB.out (x' := .int .u64 0) (y' := .int .u64 0) (z' := .bool false) (p' := .int .i64 0) (q' := .int .u64 0)
    obtain ⟨k0, k1, k2, k3, k4⟩ := five_cells hb
    refine bodyPost_ret (v := .tuple #[.agg #[.int .u64 0, .int .u64 0, .bool false, .int .i64 0, .int .u64 0], .int .i64 12]) (by simp [results, Tryz.results95, go_sem, k0, k1, k2, k3, k4]) rfl ?_
    exact ⟨rfl, five_grown G1 (by omega)⟩
end
end Go.Proofs.YtoamlkljfmgomaaGreat

/-
  Blocks in a row, as plain mathematics: where each begins, how many there are, and whether they end where the heap does.
  No condition.
-/
namespace Go.Proofs.YtoamlkljfmgomaaGreat
open Go.RowKit
set_option linter.unusedVariables false
set_option linter.unusedSimpArgs false

/-- where the k-th block begins -/
def offs (f : Nat → Nat) : Nat → Nat
  | 0 => 3776
  | k + 1 => offs f k + usz (f (offs f k))
/-- So many whole blocks stand one behind the other; ok: they end at the heap's end; else what is next is no block. -/
structure Walks (f : Nat → Nat) (N : Nat) (ok : Bool) : Prop where
  lt : ∀ k, k < N → offs f k < f 16 ∧ bkP f (offs f k)
  fin : if ok then f 16 ≤ offs f N else offs f N < f 16 ∧ ¬ bkP f (offs f N)
theorem bk_ge {f : Nat → Nat} {off : Nat} (h : bkP f off) : 48 ≤ usz (f off) ∧ off + usz (f off) ≤ f 16 ∧ off < f 16 ∧ 3776 ≤ off ∧ off % 16 = 0 := by
  have h1 := mayW_size h.1.1
  have h2 := h.1.2.1
  unfold inP at h2
  omega
theorem walks_from (f : Nat → Nat) : ∀ (m k : Nat), f 16 - offs f k ≤ m → (∀ j, j < k → offs f j < f 16 ∧ bkP f (offs f j)) → ∃ N ok, Walks f N ok := by
  intro m
  induction m with
  | zero =>
    intro k h hk
    exact ⟨k, true, hk, by rw [if_pos rfl]; omega⟩
  | succ m ih =>
    intro k h hk
    by_cases h1 : offs f k < f 16
    · by_cases h2 : bkP f (offs f k)
      · refine ih (k + 1) ?_ (fun j hj => ?_)
        · have := (bk_ge h2).1
          show f 16 - (offs f k + usz (f (offs f k))) ≤ m
          omega
        · rcases Nat.lt_succ_iff_lt_or_eq.1 hj with h3 | rfl
          · exact hk j h3
          · exact ⟨h1, h2⟩
      · exact ⟨k, false, hk, by rw [if_neg (by simp)]; exact ⟨h1, h2⟩⟩
    · exact ⟨k, true, hk, by rw [if_pos rfl]; omega⟩
theorem walks_some (f : Nat → Nat) : ∃ N ok, Walks f N ok := walks_from f _ 0 (Nat.le_refl _) (fun j hj => absurd hj (Nat.not_lt_zero _))
section
variable {f : Nat → Nat} {N : Nat} {ok : Bool}
theorem Walks.ge (h : Walks f N ok) : ∀ k, k ≤ N → 3776 + 48 * k ≤ offs f k := by
  intro k
  induction k with
  | zero => intro _; exact Nat.le_refl _
  | succ k ih =>
    intro hk
    have h1 := ih (by omega)
    have h2 := bk_ge (h.lt k (by omega)).2
    show 3776 + 48 * (k + 1) ≤ offs f k + usz (f (offs f k))
    omega
theorem Walks.le (h : Walks f N ok) (hz : 3776 ≤ f 16) : ∀ k, k ≤ N → offs f k ≤ f 16 := by
  intro k
  cases k with
  | zero => intro _; exact hz
  | succ k =>
    intro hk
    exact (bk_ge (h.lt k (by omega)).2).2.1
/-- the blocks' row is short -/
theorem Walks.len (h : Walks f N ok) : 48 * N ≤ f 16 := by
  cases N with
  | zero => omega
  | succ k =>
    have h1 := h.ge (k + 1) (Nat.le_refl _)
    have h2 := (bk_ge (h.lt k (Nat.lt_succ_self k)).2).2.1
    have e : offs f (k + 1) = offs f k + usz (f (offs f k)) := rfl
    omega
theorem Walks.mono (h : Walks f N ok) {i j : Nat} (hij : i < j) (hj : j ≤ N) : offs f i + 48 ≤ offs f j := by
  induction j with
  | zero => omega
  | succ j ih =>
    have h2 := (bk_ge (h.lt j (by omega)).2).1
    have e : offs f (j + 1) = offs f j + usz (f (offs f j)) := rfl
    rcases Nat.lt_succ_iff_lt_or_eq.1 hij with h3 | rfl
    · have := ih h3 (by omega); omega
    · omega
theorem Walks.inj (h : Walks f N ok) {i j : Nat} (hi : i < N) (hj : j < N) (he : offs f i = offs f j) : i = j := by
  rcases Nat.lt_trichotomy i j with h1 | h1 | h1
  · have := h.mono h1 (Nat.le_of_lt hj); omega
  · exact h1
  · have := h.mono h1 (Nat.le_of_lt hi); omega
end
/-- all blocks, and what is told of them -/
def blks (f : Nat → Nat) (N : Nat) : List Blk := (List.range N).map fun k => bkAt f (offs f k)
theorem blks_len (f : Nat → Nat) (N : Nat) : (blks f N).length = N := by simp [blks]
theorem blks_get (f : Nat → Nat) {N k : Nat} (h : k < N) : (blks f N).getD k default = bkAt f (offs f k) := by
  unfold blks
  rw [List.getD_eq_getElem?_getD, List.getElem?_map, List.getElem?_range h]
  rfl
theorem blks_succ (f : Nat → Nat) (N : Nat) : blks f (N + 1) = blks f N ++ [bkAt f (offs f N)] := by
  unfold blks
  rw [List.range_succ, List.map_append]
  rfl
def wkL (f : Nat → Nat) (N : Nat) (ok : Bool) : List Blk := if ok then blks f N else []
def wkE (ok : Bool) : Nat := if ok then 0 else 12
/-! cells of rows of blocks -/
def cellsB (l : List Blk) : List Value := l.flatMap Blk.row
theorem cellsB_snoc (l : List Blk) (b : Blk) : cellsB (l ++ [b]) = cellsB l ++ b.row := by simp [cellsB, List.flatMap_append]
theorem cellsB_len (l : List Blk) : (cellsB l).length = l.length * 5 := by
  induction l with
  | nil => rfl
  | cons b l ih =>
    show (b.row ++ cellsB l).length = _
    rw [List.length_append, ih]
    simp [Blk.row]
    omega
theorem cellsB_at (l : List Blk) (k i : Nat) (h : k < l.length) (hi : i < 5) : (cellsB l)[k * 5 + i]? = (l.getD k default).row[i]? := by
  induction l generalizing k with
  | nil => simp at h
  | cons b l ih =>
    show (b.row ++ cellsB l)[k * 5 + i]? = _
    have hb : b.row.length = 5 := rfl
    cases k with
    | zero =>
      rw [List.getElem?_append_left (by rw [hb]; omega)]
      simp
    | succ k =>
      rw [List.getElem?_append_right (by rw [hb]; omega), hb, show (k + 1) * 5 + i - 5 = k * 5 + i by omega, ih k (by simpa using h)]
      simp
theorem cellsB_one (l : List Blk) : ∀ u ∈ cellsB l, u.oneCell' = true := by
  intro u hu
  unfold cellsB at hu
  rw [List.mem_flatMap] at hu
  obtain ⟨b, _, hb⟩ := hu
  simp [Blk.row] at hb
  rcases hb with rfl | rfl | rfl | rfl | rfl <;> rfl
end Go.Proofs.YtoamlkljfmgomaaGreat

/-
  Package phys: what 'blocks' hands back, as an iterator: it tells each block in turn, and last what is none, whatever the loop's body does that keeps the Tx.
  Conditions: the Tx stands in memory.
-/
namespace Go.Proofs.YtoamlkljfmgomaaGreat
open Go.RowKit Go.Shelf
set_option linter.unusedVariables false
set_option linter.unusedSimpArgs false
attribute [local go_sem] Oper.semAt_some

/-- what the k-th round is handed -/
def bkV (f : Nat → Nat) (k : Nat) : Array Value := #[.agg (bkR f (offs f k)).row.toArray, .int .i64 (bkE f (offs f k) : Nat)]
/-- how many rounds there are -/
def bkN (N : Nat) (ok : Bool) : Nat := if ok then N else N + 1
/-- the row that the variable in block lb leads to -/
def RowAt (lb : Nat) (A : World) (b : Nat) : Prop := ∃ v : Value, A.cell? ⟨lb, 0, none⟩ = some v ∧ v.ownBlock = some b
theorem RowAt.back {lb : Nat} {A C : World} {row : Option Nat} {b : Nat} (h : RowAt lb C b) (hg : A.grownBy C row) (hlb : lb < A.heap.size) (hr : row ≠ some lb) : RowAt lb A b := by
  obtain ⟨v, h1, h2⟩ := h
  refine ⟨v, ?_, h2⟩
  have := hg.block lb hlb (fun e => hr e.symm)
  unfold World.cell? at h1 ⊢
  simp only [this] at h1
  exact h1
/-- a block of five cells at most -/
def Small (A : World) (b : Nat) : Prop := ∃ c t fr, A.heap[b]? = some (.cells c t fr) ∧ c.size ≤ 5
theorem Small.lt {A : World} {b : Nat} (h : Small A b) : b < A.heap.size := by
  obtain ⟨c, t, fr, h1, _⟩ := h
  exact lt_of_block h1
/-- What a body that goes on keeps: all that stood below n0; and all short blocks of cells but the variable in block lb, and the row that it leads to. -/
structure BkKeep (n0 lb : Nat) (A C : World) : Prop where
  below : Below n0 A C
  frame : ∀ b, Small A b → b ≠ lb → ¬ RowAt lb A b → C.heap[b]? = A.heap[b]?
  row : ∀ b, RowAt lb C b → RowAt lb A b ∨ (A.heap.size ≤ b ∧ b < C.heap.size) ∨ b = lb ∨ (b < A.heap.size ∧ ¬ Small A b)
theorem BkKeep.trans {n0 lb : Nat} {A C E : World} (h : BkKeep n0 lb A C) (k : BkKeep n0 lb C E) : BkKeep n0 lb A E where
  below := h.below.trans k.below
  frame := fun b hb hn hr => by
    have e := h.frame b hb hn hr
    have hs : Small C b := by
      obtain ⟨c, t, fr, h1, h2⟩ := hb
      exact ⟨c, t, fr, e.trans h1, h2⟩
    refine (k.frame b hs hn (fun hC => ?_)).trans e
    rcases h.row b hC with h1 | h1 | h1 | h1
    · exact hr h1
    · have := hb.lt; omega
    · exact hn h1
    · exact h1.2 hb
  row := fun b hb => by
    have h1 := h.below.size
    have h2 := k.below.size
    rcases k.row b hb with h3 | h3 | h3 | h3
    · rcases h.row b h3 with h4 | h4 | h4 | h4
      · exact .inl h4
      · exact .inr (.inl ⟨h4.1, by omega⟩)
      · exact .inr (.inr (.inl h4))
      · exact .inr (.inr (.inr h4))
    · exact .inr (.inl ⟨by omega, h3.2⟩)
    · exact .inr (.inr (.inl h3))
    · rcases Nat.lt_or_ge b A.heap.size with h5 | h5
      · by_cases h6 : b = lb
        · exact .inr (.inr (.inl h6))
        · by_cases h7 : RowAt lb A b
          · exact .inl h7
          · refine .inr (.inr (.inr ⟨h5, fun hs => h3.2 ?_⟩))
            have e := h.frame b hs h6 h7
            obtain ⟨c, t, fr, h1, h2⟩ := hs
            exact ⟨c, t, fr, e.trans h1, h2⟩
      · exact .inr (.inl ⟨h5, by omega⟩)
theorem BkKeep.put {n0 lb : Nat} {w0 : World} (hlb : lb < w0.heap.size) (hn : n0 ≤ w0.heap.size) (W : World) (l : Nat) (o o' : Obj) (hl : w0.heap.size ≤ l) (h : W.heap[l]? = some o) (hc : o.isCells = false) (hw : o.isWalk = false) : BkKeep n0 lb W (W.putObj l o') where
  below := belowK_b (w := w0) hn W l o o' hl h hc hw
  frame := fun b hb _ _ => World.putObj_heap_other (fun e => by
    obtain ⟨c, t, fr, hb, _⟩ := hb
    subst e; rw [h] at hb; cases hb; cases hc)
  row := fun b hb => .inl (by
    obtain ⟨v, h1, h2⟩ := hb
    refine ⟨v, ?_, h2⟩
    have : (W.putObj l o').heap[lb]? = W.heap[lb]? := World.putObj_heap_other (by omega)
    unfold World.cell? at h1 ⊢
    simp only [this] at h1
    exact h1)
theorem BkKeep.alloc {n0 lb : Nat} (W : World) (o : Obj) (hn : n0 ≤ W.heap.size) (hlb : lb < W.heap.size) : BkKeep n0 lb W (W.alloc o) where
  below := (Below.refl _ W).alloc hn _
  frame := fun b hb _ _ => Below.heap_alloc _ _ _ hb.lt
  row := fun b hb => .inl (hb.back (World.grownBy_alloc W o none) hlb (by simp))
/-- blocks boxes its argument and hands the closure back. -/
theorem blocks_any (p : Option Addr) (w : World) : Calls Tryz.prog 63 #[.pointer p] w fun e w' => e = .returned (.func (.func 94) #[] #[.pointer (some ⟨w.heap.size, 0, none⟩)]) ∧ w.alloc (.cells #[.pointer p] 25) = w' := by
  go_enter Tryz.func63, Tryz.ntmps63
  go_wp2
  go_ret
  exact ⟨rfl, rfl⟩
section
variable {w : World} {T M : Nat} {R : Option Nat} {B D : Nat} {ws : List Nat} {l : List (Nat × Nat)}
set_option maxRecDepth 100000 in
set_option maxHeartbeats 2000000 in
theorem blocks1_in (h : Thinks w T M R B D ws l) (yl bx lb : Nat) {N : Nat} {ok : Bool} (hw : Walks (txSee ws l) N ok) (J Jx : List Nat → World → Prop)
    (hY : ∀ pre x W, J pre W → pre.length < bkN N ok → YieldAt Fence.wide 4 Tryz.prog yl (bkV (txSee ws l) x) W fun e W' =>
      (e = .returned (.bool true) ∧ J (pre ++ [x]) W' ∧ BkKeep w.heap.size lb W W') ∨ (e = .returned (.bool false) ∧ Jx (pre ++ [x]) W'))
    (W : World) (hJ : AbidesFrom W.heap.size J) (hJx : AbidesFrom W.heap.size Jx) (hB : Below w.heap.size w W) (hbx : W.heap[bx]? = some (.cells #[.pointer (some ⟨T, 0, none⟩)] 25 (0, 0))) (hlb : lb < W.heap.size) (hbl : bx ≠ lb) (hl : ∀ b, ¬ RowAt lb W b) (h0 : J [] W) :
    CallsIn Fence.wide 5 Tryz.prog 94 #[.func (.yield yl) #[] #[], .pointer (some ⟨bx, 0, none⟩)] W fun e W' => (∃ v, e = .returned v) ∧
      ((∃ ys, ys = List.range (bkN N ok) ∧ J ys W') ∨ (∃ pre, (∃ m, m ≤ bkN N ok ∧ pre = List.range m) ∧ Jx pre W')) := by
  have cb : W.cell? ⟨bx, 0, none⟩ = some (.pointer (some ⟨T, 0, none⟩)) := cell_of_one hbx
  have hW := h.later (below_grown hB)
  have hsz := (callsIn_wide (n := 4)).2 (hsize_any hW)
  have hlt := txSee_lt h.seg.words h.ok
  have hrd := fun (w1 : World) (hb1 : Below w.heap.size w w1) (off : Nat) (ho : off < 18446744073709551616) => (callsIn_wide (n := 4)).2 (pread_any (h.later (below_grown hb1)) off ho)
  obtain ⟨f, ef⟩ : ∃ f, txSee ws l = f := ⟨_, rfl⟩
  rw [ef] at hw hY hsz hlt hrd
  have hz := hlt 16
  obtain ⟨z, ez⟩ : ∃ z, f 16 = z := ⟨_, rfl⟩
  rw [ez] at hz hsz
  refine callsIn_of_wp Tryz.func94 rfl trivial ?_ rfl
  simp only [Tryz.ntmps94, List.size_toArray, List.length_cons, List.length_nil, Nat.reduceAdd, Nat.reduceSub, Array.replicate_succ, Array.replicate_zero, List.push_toArray, List.append_toArray, List.nil_append, List.cons_append]
  gi_wp2_with (refine ⟨trivial, ?_⟩; gi_at_call 31; (with_reducible refine hsz.mono ?_); rintro e w1 ⟨rfl, hg1⟩)
  have hB1 : Below w.heap.size w w1 := hB.grown hg1 hB.size (fun k e => by cases e)
  have hJ1 := hJ _ _ _ none h0 hg1 (fun r e => by cases e)
  have hbx1 := (hg1.block bx (lt_of_block hbx) (by simp)).trans hbx
  gi_loopw [4] (fun i wr => ∃ k : Nat, k ≤ N ∧ i = .int .u64 (offs f k : Nat) ∧ J (List.range k) wr ∧ Below w.heap.size w wr ∧ wr.heap[bx]? = some (.cells #[.pointer (some ⟨T, 0, none⟩)] 25 (0, 0)) ∧ W.heap.size ≤ wr.heap.size ∧ ∀ b, RowAt lb wr b → b < wr.heap.size ∧ b ≠ bx)
    (fun i _ => z - (intOf i).toNat)
  case atStart => exact ⟨0, Nat.zero_le _, rfl, hJ1, hB1, hbx1, hg1.size, fun b hb => absurd (hb.back hg1 hlb (by simp)) (hl b)⟩
  case round =>
    obtain ⟨k, hk, rfl, hJk, hBk, hbk, hsk, hrk⟩ := hrel
    clear cb hB1 hJ1 hbx1 hsz hW
    have cb : wr.cell? ⟨bx, 0, none⟩ = some (.pointer (some ⟨T, 0, none⟩)) := cell_of_one hbk
    by_cases hk2 : offs f k < z
    · have ho : offs f k < 18446744073709551616 := by omega
      have hread := hrd wr hBk (offs f k) ho
      have hkM : k < bkN N ok := by
        unfold bkN
        split
        · rename_i e
          rcases Nat.lt_or_ge k N with h3 | h3
          · exact h3
          · have := hw.fin
            rw [if_pos e, ez] at this
            obtain rfl : k = N := by omega
            omega
        · omega
      have hYk := fun (W1 : World) (hJ1 : J (List.range k) W1) => hY (List.range k) k W1 hJ1 (by simpa using hkM)
      unfold bkV at hYk
      have hnext : bkP f (offs f k) → k < N ∧ offs f k + usz (f (offs f k)) = offs f (k + 1) ∧ usz (f (offs f k)) < 18446744073709551616 ∧ offs f (k + 1) ≤ z ∧ 48 ≤ usz (f (offs f k)) := fun hb => by
        have h1 := bk_ge hb
        rw [ez] at h1
        have h2 : offs f (k + 1) = offs f k + usz (f (offs f k)) := rfl
        refine ⟨?_, rfl, by omega, by omega, h1.1⟩
        rcases Nat.lt_or_ge k N with h3 | h3
        · exact h3
        · have h4 := hw.fin
          obtain rfl : k = N := by omega
          cases ok
          · rw [if_neg (by simp)] at h4; exact absurd hb h4.2
          · rw [if_pos rfl, ez] at h4; omega
      by_cases hb : bkP f (offs f k)
      · obtain ⟨hkN, hn1, hn2, hn3, hn4⟩ := hnext hb
        rw [(bk_yes hb).1, (bk_yes hb).2] at hread hYk
        simp only [bkAt, Blk.row, show ((0 : Nat) : Int) = 0 from rfl] at hread hYk
        obtain ⟨off, eoff⟩ : ∃ x, offs f k = x := ⟨_, rfl⟩
        obtain ⟨off2, eoff2⟩ : ∃ x, offs f (k + 1) = x := ⟨_, rfl⟩
        obtain ⟨s, es⟩ : ∃ x, usz (f (offs f k)) = x := ⟨_, rfl⟩
        obtain ⟨u, eu⟩ : ∃ x, uus (f (offs f k)) = x := ⟨_, rfl⟩
        obtain ⟨o, eo⟩ : ∃ x, uow (f (offs f k)) = x := ⟨_, rfl⟩
        obtain ⟨n, en⟩ : ∃ x, bkL f (offs f k) = x := ⟨_, rfl⟩
        rw [es, eoff2] at hn1
        rw [es] at hn2 hn4
        rw [eoff2] at hn3
        rw [es, eu, eo, en] at hread hYk
        rw [eoff] at hread hYk hn1 hk2 ho ⊢
        have e1 : IntKind.u64.wrap ((off : Int) + (s : Int)) = (off2 : Nat) := by rw [IntKind.wrap_u64]; omega
        have HE := Lib.hid eoff2
        have HJ := Lib.hid hJk
        have HJJ := Lib.hid hJ
        clear eoff es eu eo en hnext hb eoff2 hw hY hrd hJk hJ hJx
        gi_wp2_with (refine ⟨trivial, ?_⟩; gi_at_call 95; (with_reducible refine hread.mono ?_); rintro e w2 ⟨rfl, hg2⟩; have hga := World.grownBy_alloc w2 (.cells #[.int .u64 off, .int .u64 s, .bool u, .int .i64 o, .int .u64 n] 66) none; have hbn := five_first (grown_refl (w2.alloc (.cells #[.int .u64 off, .int .u64 s, .bool u, .int .i64 o, .int .u64 n] 66)) none); obtain ⟨q0, q1, q2, q3, q4⟩ := five_cells hbn; have hJ3 := HJJ.out _ _ _ none (HJJ.out _ _ _ none HJ.out hg2 (fun r e => by cases e)) hga (fun r e => by cases e); obtain ⟨fn, tmps, assign, body, hyy, hR⟩ := hYk _ hJ3)
        refine hR.mono ?_
        rintro e W3 (⟨rfl, hJ4, hk4⟩ | ⟨rfl, hJx4⟩)
        · have hne : w2.heap.size ≠ lb := by have := hg2.size; omega
          have hnr : ¬ RowAt lb (w2.alloc (.cells #[.int .u64 off, .int .u64 s, .bool u, .int .i64 o, .int .u64 n] 66)) w2.heap.size := fun hr => by
            have h1 := hr.back (grown_trans hg2 hga) (by omega) (by simp)
            have := (hrk _ h1).1
            have := hg2.size
            omega
          have hb3 := (hk4.frame _ ⟨_, _, _, hbn, by simp⟩ hne hnr).trans hbn
          obtain ⟨y0, y1, y2, y3, y4⟩ := five_cells hb3
          have HB3 := Lib.hid hb3
          clear q0 q1 q2 q3 q4 hbn hb3
          gi_wp2
          have g3 := grown_trans hg2 hga
          have hs3 := g3.size
          have hs4 := hk4.below.size
          have hbx4 : W3.heap[bx]? = some (.cells #[.pointer (some ⟨T, 0, none⟩)] 25 (0, 0)) := by
            have h5 := (g3.block bx (lt_of_block hbk) (by simp)).trans hbk
            exact (hk4.frame bx ⟨_, _, _, h5, by simp⟩ hbl (fun hr => (hrk _ (hr.back g3 (by omega) (by simp))).2 rfl)).trans h5
          refine ⟨⟨k + 1, hkN, by rw [HE.out], by rw [List.range_succ]; exact hJ4, (hBk.grown g3 hBk.size (fun k e => by cases e)).trans hk4.below, hbx4, by omega, fun b hb => ?_⟩, by simp [intOf]; omega⟩
          have hbx5 := lt_of_block hbk
          rcases hk4.row b hb with h5 | h5 | h5 | h5
          · have := hrk _ (h5.back g3 (by omega) (by simp))
            exact ⟨by omega, this.2⟩
          · exact ⟨by omega, by omega⟩
          · exact ⟨by omega, fun e => hbl (by omega)⟩
          · refine ⟨by omega, fun e => h5.2 ?_⟩
            subst e
            exact ⟨_, _, _, (g3.block b hbx5 (by simp)).trans hbk, by simp⟩
        · gi_wp2
          refine bodyPost_ret (results_none rfl _ _ _) rfl ?_
          exact ⟨⟨_, rfl⟩, .inr ⟨_, ⟨k + 1, hkM, by rw [List.range_succ]⟩, hJx4⟩⟩
      · have hkk : k + 1 = bkN N ok := by
          have hkN : k = N := by
            rcases Nat.lt_or_ge k N with h3 | h3
            · exact absurd (hw.lt k h3).2 hb
            · omega
          unfold bkN
          split
          · rename_i e
            have h4 := hw.fin
            rw [if_pos e, ez, ← hkN] at h4
            omega
          · omega
        rw [(bk_no hb).1, (bk_no hb).2] at hread hYk
        simp only [Blk.none, Blk.row, show ((0 : Nat) : Int) = 0 from rfl, show ((12 : Nat) : Int) = 12 from rfl] at hread hYk
        obtain ⟨off, eoff⟩ : ∃ x, offs f k = x := ⟨_, rfl⟩
        rw [eoff] at hread hk2 ho ⊢
        have HJ := Lib.hid hJk
        have HJJ := Lib.hid hJ
        clear eoff hnext hb hw hY hrd hJk hJ hJx
        gi_wp2_with (refine ⟨trivial, ?_⟩; gi_at_call 95; (with_reducible refine hread.mono ?_); rintro e w2 ⟨rfl, hg2⟩; have hga := World.grownBy_alloc w2 (.cells #[.int .u64 0, .int .u64 0, .bool false, .int .i64 0, .int .u64 0] 66) none; have hbn := five_first (grown_refl (w2.alloc (.cells #[.int .u64 0, .int .u64 0, .bool false, .int .i64 0, .int .u64 0] 66)) none); obtain ⟨q0, q1, q2, q3, q4⟩ := five_cells hbn; have hJ3 := HJJ.out _ _ _ none (HJJ.out _ _ _ none HJ.out hg2 (fun r e => by cases e)) hga (fun r e => by cases e); obtain ⟨fn, tmps, assign, body, hyy, hR⟩ := hYk _ hJ3)
        refine hR.mono ?_
        rintro e W3 (⟨rfl, hJ4, hk4⟩ | ⟨rfl, hJx4⟩)
        · gi_wp2
          refine bodyPost_ret (results_none rfl _ _ _) rfl ?_
          exact ⟨⟨_, rfl⟩, .inl ⟨_, rfl, by rw [← hkk, List.range_succ]; exact hJ4⟩⟩
        · gi_wp2
          refine bodyPost_ret (results_none rfl _ _ _) rfl ?_
          exact ⟨⟨_, rfl⟩, .inr ⟨_, ⟨k + 1, hkM, by rw [List.range_succ]⟩, hJx4⟩⟩
    · have hkk : k = bkN N ok := by
        have hkN : k = N := by
          rcases Nat.lt_or_ge k N with h3 | h3
          · have := (hw.lt k h3).1; omega
          · omega
        unfold bkN
        split
        · exact hkN
        · rename_i e
          have h4 := hw.fin
          rw [if_neg e, ez, ← hkN] at h4
          omega
      obtain ⟨off, eoff⟩ : ∃ x, offs f k = x := ⟨_, rfl⟩
      rw [eoff] at hk2 ⊢
      clear eoff hw hY hrd hJ hJx
      gi_wp2
      go_end0
      exact ⟨⟨_, rfl⟩, .inl ⟨_, rfl, by rw [← hkk]; exact hJk⟩⟩
/-- The same, as a contract for loops. -/
theorem blocks_stops (h : Thinks w T M R B D ws l) (bx lb : Nat) {N : Nat} {ok : Bool} (hw : Walks (txSee ws l) N ok) {w1 : World} (hB : Below w.heap.size w w1) (hbx : w1.heap[bx]? = some (.cells #[.pointer (some ⟨T, 0, none⟩)] 25 (0, 0))) (hlb : lb < w1.heap.size) (hbl : bx ≠ lb) (hl : ∀ b, ¬ RowAt lb w1 b) :
    SeqStopsK Fence.wide 5 Tryz.prog 94 #[.pointer (some ⟨bx, 0, none⟩)] (bkV (txSee ws l)) (BkKeep w.heap.size lb) (fun ys => ys = List.range (bkN N ok)) (fun pre => ∃ m, m ≤ bkN N ok ∧ pre = List.range m) (bkN N ok) w1 :=
  fun yl J Jx W hW hJ hJx hY h0 =>
    blocks1_in h yl bx lb hw J Jx hY W hJ hJx (hB.trans (below_grown hW |> fun g => (Below.refl _ w1).grown g hB.size (fun k e => by cases e))) ((hW.block bx (lt_of_block hbx)).trans hbx) (Nat.lt_of_lt_of_le hlb hW.size) hbl (fun b hb => hl b (hb.back (below_grown hW) hlb (by simp))) h0
end
end Go.Proofs.YtoamlkljfmgomaaGreat

/-
  Package phys: the contract of Walk: all blocks, in a row of the call's own, or that they are none.
  Conditions: the Tx stands in memory.
-/
namespace Go.Proofs.YtoamlkljfmgomaaGreat
open Go.RowKit Go.Shelf
set_option linter.unusedVariables false
set_option linter.unusedSimpArgs false
attribute [local go_sem] Oper.semAt_some

theorem info_blk : (Tryz.prog.info? 66).map (fun i => (i.zero, i.size, i.bytes)) = some (some (.agg #[.int .u64 0, .int .u64 0, .bool false, .int .i64 0, .int .u64 0]), 5, 40) := by kernel_rfl
def Xo (f : Nat → Nat) (k : Nat) : Nat := (bkR f (offs f k)).off
def Xs (f : Nat → Nat) (k : Nat) : Nat := (bkR f (offs f k)).s
def Xu (f : Nat → Nat) (k : Nat) : Bool := (bkR f (offs f k)).u
def Xw (f : Nat → Nat) (k : Nat) : Int := (bkR f (offs f k)).o
def Xn (f : Nat → Nat) (k : Nat) : Nat := (bkR f (offs f k)).n
def Xe (f : Nat → Nat) (k : Nat) : Nat := bkE f (offs f k)
theorem Xrow (f : Nat → Nat) (k : Nat) : (bkR f (offs f k)).row = [.int .u64 (Xo f k : Nat), .int .u64 (Xs f k : Nat), .bool (Xu f k), .int .i64 (Xw f k), .int .u64 (Xn f k : Nat)] := rfl
theorem Xe_or (f : Nat → Nat) (k : Nat) : Xe f k = 0 ∨ Xe f k = 12 := by
  unfold Xe bkE
  split
  · exact .inl rfl
  · exact .inr rfl
theorem cells_five_new (W : World) (t : TypeId) (x y z p q : Value) : ∀ j u, [x, y, z, p, q][j]? = some u → (W.alloc (.cells #[x, y, z, p, q] t)).cell? ((⟨W.heap.size, 0, none⟩ : Addr).add j) = some u := by
  intro j u hj
  have hb : (W.alloc (.cells #[x, y, z, p, q] t)).heap[W.heap.size]? = some (.cells #[x, y, z, p, q] t (0, 0)) := heap_alloc_new' _ _
  have hadd : ∀ j, (⟨W.heap.size, 0, none⟩ : Addr).add j = ⟨W.heap.size, j, none⟩ := fun j => by unfold Addr.add; split <;> simp_all
  rw [hadd]
  unfold World.cell?
  simp only [hb]
  rcases j with _ | _ | _ | _ | _ | j
  all_goals first | (simp at hj; subst hj; rfl) | (simp at hj)
/-- the blocks of these places, as cells -/
def cellsK (f : Nat → Nat) (pre : List Nat) : List Value := cellsB (pre.map fun k => bkR f (offs f k))
theorem cellsK_snoc (f : Nat → Nat) (pre : List Nat) (k : Nat) : cellsK f (pre ++ [k]) = cellsK f pre ++ (bkR f (offs f k)).row := by
  unfold cellsK
  rw [List.map_append]
  exact cellsB_snoc _ _
theorem cellsK_all {f : Nat → Nat} {N : Nat} {ok : Bool} (h : Walks f N ok) : cellsK f (List.range N) = cellsB (blks f N) := by
  unfold cellsK blks
  congr 1
  refine List.map_congr_left fun k hk => ?_
  exact (bk_yes (h.lt k (List.mem_range.1 hk)).2).1
/-- A row of the call's own that holds these blocks (or nil, of none); t: which package's blocks. -/
def OwnB (w : World) (base : Nat) (t : TypeId) (v : Value) (l : List Blk) : Prop := w.ownsRow base t 5 v l.length (cellsB l)
/-- What holds between two rounds. -/
structure WkI (w : World) (r2 lb : Nat) (f : Nat → Nat) (pre : List Nat) (W : World) : Prop where
  row : ∃ v, Boxed W lb 85 v ∧ W.ownsRow w.heap.size 66 5 v pre.length (cellsK f pre) ∧ (v = .slice none 0 0 ↔ pre = [])
  good : ∀ k, k ∈ pre → bkE f (offs f k) = 0
  below : Below w.heap.size w W
  res2 : Boxed W r2 85 (.slice none 0 0)
  res3 : Boxed W (r2 + 1) 35 (.int .i64 0)
/-- A round has left. -/
structure WkX (w : World) (r2 : Nat) (f : Nat → Nat) (c : Code) (pre : List Nat) (W : World) : Prop where
  jump : c = .ret
  bad : ∃ k, k ∈ pre ∧ bkE f (offs f k) = 12
  below : Below w.heap.size w W
  res2 : Boxed W r2 85 (.slice none 0 0)
  res3 : Boxed W (r2 + 1) 35 (.int .i64 12)
theorem boxed_from (n B : Nat) (t : TypeId) (v : Value) {β : Type} : OwnFrom n (fun (_ : β) W => Boxed W B t v) := fun s X Y row hs hg hr => by
  refine (hg.block B (lt_of_block hs) (fun e => ?_)).trans hs
  obtain ⟨_, o, ho, hc⟩ := hr B e.symm
  rw [show X.heap[B]? = _ from hs] at ho; cases ho; cases hc
theorem WkI.own (w : World) (n r2 lb : Nat) (f : Nat → Nat) (hn : w.heap.size ≤ n) : OwnFrom n (WkI w r2 lb f) := fun s X Y row hs hg hr => by
  refine ⟨?_, hs.good, ?_, boxed_from n _ _ _ s X Y row hs.res2 hg hr, boxed_from n _ _ _ s X Y row hs.res3 hg hr⟩
  · exact Own.from (holdsRow_own w.heap.size lb 85 66 5 (fun pre : List Nat => pre.length) (fun pre => cellsK f pre) (fun pre v => v = .slice none 0 0 ↔ pre = [])) n s X Y row hs.row hg hr
  · exact hs.below.grown hg hs.below.size (fun k e => Nat.le_trans hn (hr k e).1)
theorem WkX.own (w : World) (n r2 : Nat) (f : Nat → Nat) (hn : w.heap.size ≤ n) (c : Code) : OwnFrom n (WkX w r2 f c) := fun s X Y row hs hg hr => by
  refine ⟨hs.jump, hs.bad, ?_, boxed_from n _ _ _ s X Y row hs.res2 hg hr, boxed_from n _ _ _ s X Y row hs.res3 hg hr⟩
  exact hs.below.grown hg hs.below.size (fun k e => Nat.le_trans hn (hr k e).1)
theorem row_form {w : World} {base : Nat} {t : TypeId} {sz k : Nat} {v : Value} {xs : List Value} (h : w.ownsRow base t sz v k xs) : ∃ a n c, v = .slice a n c := by
  rcases h.2 with ⟨hv, _⟩ | ⟨g, cap, cur, hv, _⟩
  · exact ⟨_, _, _, hv⟩
  · exact ⟨_, _, _, hv⟩
/-- a body that has appended to the row that its variable leads to -/
theorem bk_appended {W w1 : World} {n0 base lb k cap g : Nat} {t e : TypeId} {v : Value} {tmp : Obj} {ys : List Value} (hv : Boxed W lb t v) (hb2 : Below n0 W (w1.setCell ⟨lb, 0, none⟩ (.slice (some ⟨g, 0, none⟩) (k + 1) cap)))
    (hv2 : Boxed (w1.setCell ⟨lb, 0, none⟩ (.slice (some ⟨g, 0, none⟩) (k + 1) cap)) lb t (.slice (some ⟨g, 0, none⟩) (k + 1) cap)) (hown : w1.ownsRow base e 5 (.slice (some ⟨g, 0, none⟩) (k + 1) cap) (k + 1) ys) (hgrow : (W.alloc tmp).grownBy w1 v.ownBlock) (hf : k = 0 → W.heap.size ≤ base) :
    BkKeep n0 lb W (w1.setCell ⟨lb, 0, none⟩ (.slice (some ⟨g, 0, none⟩) (k + 1) cap)) := by
  have hcv : W.cell? ⟨lb, 0, none⟩ = some v := cell_of_one hv
  have hga := World.grownBy_alloc W tmp none
  have hs1 := hga.size
  have hs2 := hgrow.size
  have hs3 : w1.heap.size ≤ (w1.setCell ⟨lb, 0, none⟩ (.slice (some ⟨g, 0, none⟩) (k + 1) cap)).heap.size := (grown_set w1 lb 0 _).size
  refine ⟨hb2, fun b hb hn hr => ?_, fun b hb => ?_⟩
  · have hlt := hb.lt
    refine ((grown_set w1 lb 0 _).block b (by omega) (fun e => hn (by injection e))).trans ?_
    refine (hgrow.block b (by omega) (fun e => hr ⟨v, hcv, e.symm⟩)).trans ?_
    exact hga.block b hlt (by simp)
  · obtain ⟨u, h1, h2⟩ := hb
    rw [cell_of_one hv2] at h1
    injection h1 with h1
    subst h1
    have hgb : g = b := by simpa [Value.ownBlock] using h2
    subst hgb
    rcases hown.2 with ⟨he, _⟩ | ⟨g2, cap2, cur, heq, hbg, hg, hnc, hcm, hcs, htake⟩
    · cases he
    · injection heq with e1 e2 e3
      injection e1 with e1
      injection e1 with e1
      subst e1
      subst e3
      have hltg := lt_of_block hg
      by_cases hW : W.heap.size ≤ g
      · exact .inr (.inl ⟨hW, by omega⟩)
      · have hk : k ≠ 0 := fun e => hW (Nat.le_trans (hf e) hbg)
        by_cases hvg : v.ownBlock = some g
        · exact .inl ⟨v, hcv, hvg⟩
        · refine .inr (.inr (.inr ⟨by omega, fun hs => ?_⟩))
          obtain ⟨c, t', fr, hc, hsz⟩ := hs
          have h5 := (hgrow.block g (by omega) (fun e => hvg e.symm)).trans ((hga.block g (by omega) (by simp)).trans hc)
          rw [hg] at h5
          cases h5
          rw [hcs] at hsz
          omega
section
variable {w : World} {T M : Nat} {R : Option Nat} {B D : Nat} {ws : List Nat} {l : List (Nat × Nat)}
set_option maxRecDepth 100000 in
set_option maxHeartbeats 4000000 in
theorem pwalk_in (h : Thinks w T M R B D ws l) {N : Nat} {ok : Bool} (hc : chkN ws l = 0) (hw : Walks (txSee ws l) N ok) (hN : N ≤ 1000000) :
    CallsIn Fence.wide 6 Tryz.prog 30 #[.pointer (some ⟨T, 0, none⟩)] w fun e w' => ∃ v, e = .returned (.tuple #[v, .int .i64 (wkE ok : Nat)]) ∧ OwnB w' w.heap.size 66 v (wkL (txSee ws l) N ok) ∧ w.grownBy w' none := by
  obtain ⟨i0, hi, hz0, hz1, hz2⟩ := info_parts info_blk
  obtain ⟨f, ef⟩ : ∃ f, txSee ws l = f := ⟨_, rfl⟩
  rw [ef] at hw ⊢
  have hg0 : w.grownBy ((w.alloc (.cells #[.slice none 0 0] 85)).alloc (.cells #[.int .i64 0] 35)) none := grown_trans (World.grownBy_alloc _ _ _) (World.grownBy_alloc _ _ _)
  have hck := (callsIn_wide (n := 5)).2 (hcheck_any (h.later hg0))
  rw [hc] at hck
  simp only [show ((0 : Nat) : Int) = 0 from rfl] at hck
  have hb2 : ((w.alloc (.cells #[.slice none 0 0] 85)).alloc (.cells #[.int .i64 0] 35)).heap[w.heap.size]? = some (.cells #[.slice none 0 0] 85 (0, 0)) :=
    (Below.heap_alloc _ _ _ (by simp)).trans (heap_alloc_new' w _)
  have hb3 : ((w.alloc (.cells #[.slice none 0 0] 85)).alloc (.cells #[.int .i64 0] 35)).heap[w.heap.size + 1]? = some (.cells #[.int .i64 0] 35 (0, 0)) := by
    have := heap_alloc_new' (w.alloc (.cells #[.slice none 0 0] 85)) (.cells #[.int .i64 0] 35)
    rwa [World.size_alloc] at this
  have hs0 : ((w.alloc (.cells #[.slice none 0 0] 85)).alloc (.cells #[.int .i64 0] 35)).heap.size = w.heap.size + 2 := by simp
  refine callsIn_of_wp_marks Tryz.func30 rfl trivial ?_ rfl
  simp only [Tryz.ntmps30, List.size_toArray, List.length_cons, List.length_nil, Nat.reduceAdd, Nat.reduceSub, Array.replicate_succ, Array.replicate_zero, List.push_toArray, List.append_toArray, List.nil_append, List.cons_append]
  gi_wp2_with (first | (refine ⟨trivial, ?_⟩; gi_at_call 62; (with_reducible refine hck.mono ?_); rintro e w1 ⟨rfl, hg1⟩) | (refine ⟨trivial, ?_⟩; gi_at_call 63; refine (callsIn_wide.2 (blocks_any _ _)).mono ?_; rintro e w2 ⟨rfl, rfl⟩))
  have hsz1 := hg1.size
  rw [hs0] at hsz1
  have hb2' := (hg1.block _ (lt_of_block hb2) (by simp)).trans hb2
  have hb3' := (hg1.block _ (lt_of_block hb3) (by simp)).trans hb3
  have hgA : w1.grownBy ((w1.alloc (.cells #[.slice none 0 0] 85)).alloc (.cells #[.pointer (some ⟨T, 0, none⟩)] 25)) none := grown_trans (World.grownBy_alloc _ _ _) (World.grownBy_alloc _ _ _)
  have hG0 := grown_trans hg0 (grown_trans hg1 hgA)
  have hbl : ((w1.alloc (.cells #[.slice none 0 0] 85)).alloc (.cells #[.pointer (some ⟨T, 0, none⟩)] 25)).heap[w1.heap.size]? = some (.cells #[.slice none 0 0] 85 (0, 0)) :=
    (Below.heap_alloc _ _ _ (by simp)).trans (heap_alloc_new' w1 _)
  have hbx : ((w1.alloc (.cells #[.slice none 0 0] 85)).alloc (.cells #[.pointer (some ⟨T, 0, none⟩)] 25)).heap[w1.heap.size + 1]? = some (.cells #[.pointer (some ⟨T, 0, none⟩)] 25 (0, 0)) := by
    have := heap_alloc_new' (w1.alloc (.cells #[.slice none 0 0] 85)) (.cells #[.pointer (some ⟨T, 0, none⟩)] 25)
    rwa [World.size_alloc] at this
  have hszA : ((w1.alloc (.cells #[.slice none 0 0] 85)).alloc (.cells #[.pointer (some ⟨T, 0, none⟩)] 25)).heap.size = w1.heap.size + 2 := by simp
  have hbA2 := (hgA.block _ (lt_of_block hb2') (by simp)).trans hb2'
  have hbA3 := (hgA.block _ (lt_of_block hb3') (by simp)).trans hb3'
  obtain ⟨W0, hW0⟩ : ∃ W0, (w1.alloc (.cells #[.slice none 0 0] 85)).alloc (.cells #[.pointer (some ⟨T, 0, none⟩)] 25) = W0 := ⟨_, rfl⟩
  rw [hW0] at hG0 hbl hbx hszA hbA2 hbA3 ⊢
  clear hW0 hgA hb2 hb3 hb2' hb3' hg0 hg1 hck hs0
  obtain ⟨lb, elb⟩ : ∃ lb, w1.heap.size = lb := ⟨_, rfl⟩
  rw [elb] at hbl hbx hszA hsz1 ⊢
  clear elb
  have hseq0 := blocks_stops h (lb + 1) lb (by rw [ef]; exact hw) (grown_below hG0) hbx (by omega) (by omega) (fun b hb => by
    obtain ⟨v, h1, h2⟩ := hb
    have h3 : W0.cell? ⟨lb, 0, none⟩ = some (.slice none 0 0) := cell_of_one hbl
    rw [h3] at h1
    cases h1
    cases h2)
  rw [ef] at hseq0
  have hseq : SeqStopsK Fence.wide 5 Tryz.prog 94 #[.pointer (some ⟨lb + 1, 0, none⟩)] (fun x => #[.agg #[.int .u64 (Xo f x : Nat), .int .u64 (Xs f x : Nat), .bool (Xu f x), .int .i64 (Xw f x), .int .u64 (Xn f x : Nat)], .int .i64 (Xe f x : Nat)]) (BkKeep w.heap.size lb) (fun ys => ys = List.range (bkN N ok)) (fun pre => ∃ m, m ≤ bkN N ok ∧ pre = List.range m) (bkN N ok) W0 := hseq0
  clear hseq0 ef
  refine wpIn_rangeFunc_ownH rfl (by decide) (gf := 94) (lb := #[.pointer (some ⟨lb + 1, 0, none⟩)]) rfl trivial (enters_of Tryz.func94 (by kernel_rfl) rfl) hseq (fun h k => BkKeep.trans h k) (fun W l o o' hl h hc hw => BkKeep.put (by omega) hG0.size W l o o' hl h hc hw) (Below.refl _ _) (fun _ => rfl)
    (WkI w w.heap.size lb f)
    (WkX w w.heap.size f)
    (WkI.own w _ _ _ _ hG0.size)
    (WkX.own w _ _ _ hG0.size)
    ⟨⟨_, hbl, World.ownsRow_nil _ _ _ _, by simp⟩, fun k hk => absurd hk List.not_mem_nil, grown_below hG0, hbA2, hbA3⟩
    (fun x a' W => ∃ Bx, W.heap[Bx]? = some (.cells #[.int .u64 (Xo f x : Nat), .int .u64 (Xs f x : Nat), .bool (Xu f x), .int .i64 (Xw f x), .int .u64 (Xn f x : Nat)] 66 (0, 0)) ∧ a' = { tmps := #[.pointer (some ⟨T, 0, none⟩), undef, .pointer (some ⟨w.heap.size, 0, none⟩), .pointer (some ⟨w.heap.size + 1, 0, none⟩), .int .i64 0, .pointer (some ⟨lb, 0, none⟩), .pointer (some ⟨Bx, 0, none⟩), .int .i64 (Xe f x : Nat), .pointer (some ⟨T, 0, none⟩), .int .i64 0, .int .i64 0, .bool false, undef, .pointer (some ⟨T, 0, none⟩), .func (.func 94) #[] #[.pointer (some ⟨lb + 1, 0, none⟩)], .agg #[.int .u64 (Xo f x : Nat), .int .u64 (Xs f x : Nat), .bool (Xu f x), .int .i64 (Xw f x), .int .u64 (Xn f x : Nat)], .int .i64 (Xe f x : Nat), undef, undef, undef, undef, undef, undef, undef, undef], defers := [] })
    (fun x a' _ X Y row hs hg hr => by
      obtain ⟨Bx, h2, h3⟩ := hs
      refine ⟨Bx, (hg.block Bx (lt_of_block h2) (fun e => ?_)).trans h2, h3⟩
      obtain ⟨_, o, ho, hc⟩ := hr Bx e.symm
      rw [h2] at ho; cases ho; cases hc)
    ?assign ?body ?done ?stop
  case assign =>
    rintro yl pre x W K hI hK
    obtain ⟨v, hv, hrow, hnil⟩ := hI.row
    have hlbW := lt_of_block hv
    gi_wp2
    have hga := World.grownBy_alloc W (.cells #[.int .u64 (Xo f x : Nat), .int .u64 (Xs f x : Nat), .bool (Xu f x), .int .i64 (Xw f x), .int .u64 (Xn f x : Nat)] 66) none
    exact hK _ _ ((KeepsOthers.alloc _ _).from _) (BkKeep.alloc _ _ hI.below.size hlbW) ⟨⟨v, hv.alloc _, hrow.alloc _, hnil⟩, hI.good, hI.below.alloc hI.below.size _, hI.res2.alloc _, hI.res3.alloc _⟩ ⟨W.heap.size, heap_alloc_new' _ _, rfl⟩
  case body =>
    rintro yl pre x a' W hl ⟨r, hr⟩ hI ⟨Bx, bX, rfl⟩ hlt
    obtain ⟨v, hv, hrow, hnil⟩ := hI.row
    have hc := hv.cell
    obtain ⟨x0, x1, x2, x3, x4⟩ := five_cells bX
    rcases Xe_or f x with he | he
    · have he' : ((Xe f x : Nat) : Int) = 0 := by rw [he]; rfl
      rw [he']
      have hpl : pre.length ≤ 1000001 := by unfold bkN at hlt; split at hlt <;> omega
      obtain ⟨base, hbase1, hbase2, hrow', hfresh⟩ : ∃ base, w.heap.size ≤ base ∧ base ≤ W.heap.size ∧ W.ownsRow base 66 5 v pre.length (cellsK f pre) ∧ (pre.length = 0 → W.heap.size ≤ base) := by
        by_cases hp : pre = []
        · refine ⟨W.heap.size, hI.below.size, Nat.le_refl _, ?_, fun _ => Nat.le_refl _⟩
          rw [hnil.2 hp, hp]
          exact World.ownsRow_nil _ _ _ _
        · exact ⟨w.heap.size, Nat.le_refl _, hI.below.size, hrow, fun e => absurd (List.length_eq_zero_iff.1 e) hp⟩
      have hle : w.heap.size ≤ lb := by omega
      gi_wp2_with (gi_at_builtin; go_must (refine wpListIn_append_own _ rfl _ _ 85 rfl base 66 i0 (.agg #[.int .u64 0, .int .u64 0, .bool false, .int .i64 0, .int .u64 0]) 5 40 Tryz.underlying85 hi hz0 hz1 hz2 rfl (by decide) _ _ _ rfl (hrow'.alloc _) ⟨W.heap.size, 0, none⟩ 1 1 [.int .u64 (Xo f x : Nat), .int .u64 (Xs f x : Nat), .bool (Xu f x), .int .i64 (Xw f x), .int .u64 (Xn f x : Nat)] rfl rfl (cells_five_new _ _ _ _ _ _ _) (by simp [Value.oneCell']) (by unfold maxLen; omega) (by omega) (by simp; omega) ?_); intro v' w1 hown' hgrow _; obtain ⟨g', cap', rfl⟩ := ownsRow_succ hown'; obtain ⟨hv1, hv2, hr2, hk2, hb2⟩ := hv.appended (by decide) hrow hI.below.size hle (World.ownsRow.mono hown' hbase1) hgrow; have hc1 := hv1.cell; have hf1 := hv1.frozen)
      have k2 : Boxed (w1.setCell ⟨lb, 0, none⟩ (.slice (some ⟨g', 0, none⟩) (pre.length + 1) cap')) w.heap.size 85 (.slice none 0 0) := ((hI.res2.alloc _).kept hgrow (hI.res2.not_row (by decide) hrow)).kept (grown_set _ _ _ _) (by simp; omega)
      have k3 : Boxed (w1.setCell ⟨lb, 0, none⟩ (.slice (some ⟨g', 0, none⟩) (pre.length + 1) cap')) (w.heap.size + 1) 35 (.int .i64 0) := ((hI.res3.alloc _).kept hgrow (hI.res3.not_row (by decide) hrow)).kept (grown_set _ _ _ _) (by simp; omega)
      refine ⟨hk2.from _, bk_appended hv hb2 hv2 hown' hgrow hfresh, ⟨⟨_, hv2, by rw [cellsK_snoc, Xrow, List.length_append]; exact hr2, by simp⟩, fun k hk => ?_, hI.below.trans hb2, k2, k3⟩⟩
      rcases List.mem_append.1 hk with hk | hk
      · exact hI.good k hk
      · obtain rfl := List.mem_singleton.1 hk
        exact he
    · have he' : ((Xe f x : Nat) : Int) = 12 := by rw [he]; rfl
      rw [he']
      have hc2 := hI.res2.cell
      have hf2 := hI.res2.frozen
      have hc3 := hI.res3.cell
      have hf3 := hI.res3.frozen
      gi_wp2
      have k2 := (hI.res2.set (.slice none 0 0)).kept (grown_set _ (w.heap.size + 1) 0 (.int .i64 12)) (by simp)
      have k3 := (hI.res3.kept (grown_set _ w.heap.size 0 (.slice none 0 0)) (by simp)).set (.int .i64 12)
      exact ⟨((KeepsOthers.setCell _ _ _).trans (KeepsOthers.setCell _ _ _)).from _, ⟨rfl, ⟨x, by simp, he⟩, (hI.below.setCell (p := ⟨w.heap.size, 0, none⟩) (Nat.le_refl _) _).setCell (p := ⟨w.heap.size + 1, 0, none⟩) (Nat.le_succ _) _, k2, k3⟩⟩
  case done =>
    rintro D2 ys W hD rfl hI hK
    have hok : ok = true := by
      cases ok
      · exfalso
        have h1 := hI.good N (List.mem_range.2 (Nat.lt_succ_self N))
        have h2 := hw.fin
        rw [if_neg (by simp)] at h2
        rw [(bk_no h2.2).2] at h1
        cases h1
      · rfl
    subst hok
    obtain ⟨v, hv, hrow, hnil⟩ := hI.row
    rw [show bkN N true = N from rfl, List.length_range, cellsK_all hw] at hrow
    obtain ⟨va, vn, vc, hvv⟩ := row_form hrow
    subst hvv
    have hc := hv.cell
    have hc2 := hI.res2.cell
    have hf2 := hI.res2.frozen
    have hc3 := hI.res3.cell
    have hf3 := hI.res3.frozen
    gi_wp2
    have hK2 := ((KeepsOthers.setCell W ⟨w.heap.size, 0, none⟩ (.slice va vn vc)).trans (KeepsOthers.setCell _ ⟨w.heap.size + 1, 0, none⟩ (.int .i64 0))).same D2 _ hK rfl
    have b2 := (hI.res2.set (.slice va vn vc)).kept (grown_set _ (w.heap.size + 1) 0 (.int .i64 0)) (by simp)
    have b3 := (hI.res3.kept (grown_set _ w.heap.size 0 (.slice va vn vc)) (by simp)).set (.int .i64 0)
    have r2 := (hrow.kept (grown_set W w.heap.size 0 (.slice va vn vc)) (.inr (hI.res2.not_row (by decide) hrow).symm))
    have r3 := r2.kept (grown_set _ (w.heap.size + 1) 0 (.int .i64 0)) (.inr ((hI.res3.kept (grown_set _ w.heap.size 0 (.slice va vn vc)) (by simp)).not_row (by decide) r2).symm)
    have hBB := (hI.below.setCell (p := ⟨w.heap.size, 0, none⟩) (Nat.le_refl _) (.slice va vn vc)).setCell (p := ⟨w.heap.size + 1, 0, none⟩) (Nat.le_succ _) (.int .i64 0)
    obtain ⟨W2, hW2⟩ : ∃ W2, (W.setCell ⟨w.heap.size, 0, none⟩ (.slice va vn vc)).setCell ⟨w.heap.size + 1, 0, none⟩ (.int .i64 0) = W2 := ⟨_, rfl⟩
    rw [hW2] at hK2 b2 b3 r3 hBB ⊢
    have hne2 : D2 ≠ w.heap.size := by omega
    have hne3 : D2 ≠ w.heap.size + 1 := by omega
    have d2 := (b2.kept (grownBy_putObj' W2 D2 (.deferred none)) (by simp; omega)).cell
    have d3 := (b3.kept (grownBy_putObj' W2 D2 (.deferred none)) (by simp; omega)).cell
    refine ⟨by simp, .inl ⟨_, _, rfl, run_takeDeferred hK2, ?_⟩⟩
    refine ⟨.tuple #[.slice va vn vc, .int .i64 0], by simp [results, Tryz.results30, go_sem, d2, d3], .slice va vn vc, rfl, ?_, below_grown (hBB.trans (belowK_b (w := w) (Nat.le_refl _) W2 D2 _ _ (by omega) hK2 rfl rfl))⟩
    unfold OwnB wkL
    rw [if_pos rfl, blks_len]
    exact ownsRow_putObj r3 _ hK2 rfl
  case stop =>
    rintro D2 c pre W hD hSp hX hK
    obtain rfl := hX.jump
    gi_wp2
    have hok : ok = false := by
      cases ok
      · rfl
      · exfalso
        obtain ⟨m, hm, rfl⟩ := hSp
        obtain ⟨k, hk, hb⟩ := hX.bad
        rw [List.mem_range] at hk
        have hm' : m ≤ N := hm
        rw [(bk_yes (hw.lt k (by omega)).2).2] at hb
        cases hb
    subst hok
    have hne2 : D2 ≠ w.heap.size := by omega
    have hne3 : D2 ≠ w.heap.size + 1 := by omega
    have d2 := (hX.res2.kept (grownBy_putObj' W D2 (.deferred none)) (by simp; omega)).cell
    have d3 := (hX.res3.kept (grownBy_putObj' W D2 (.deferred none)) (by simp; omega)).cell
    refine ⟨by simp, .inl ⟨_, _, rfl, run_takeDeferred hK, ?_⟩⟩
    refine ⟨.tuple #[.slice none 0 0, .int .i64 12], by simp [results, Tryz.results30, go_sem, d2, d3], .slice none 0 0, rfl, World.ownsRow_nil _ _ _ _, below_grown (hX.below.trans (belowK_b (w := w) (Nat.le_refl _) W D2 _ _ (by omega) hK rfl rfl))⟩
/-- Walk, where the head is checked. -/
theorem pwalk_yes (h : Thinks w T M R B D ws l) {N : Nat} {ok : Bool} (hc : chkN ws l = 0) (hw : Walks (txSee ws l) N ok) (hN : N ≤ 1000000) :
    Calls Tryz.prog 30 #[.pointer (some ⟨T, 0, none⟩)] w fun e w' => ∃ v, e = .returned (.tuple #[v, .int .i64 (wkE ok : Nat)]) ∧ OwnB w' w.heap.size 66 v (wkL (txSee ws l) N ok) ∧ w.grownBy w' none :=
  callsIn_wide.1 (pwalk_in h hc hw hN)
set_option maxHeartbeats 1000000 in
/-- Walk, where it is not. -/
theorem pwalk_no (h : Thinks w T M R B D ws l) (hc : chkN ws l = 12) :
    Calls Tryz.prog 30 #[.pointer (some ⟨T, 0, none⟩)] w fun e w' => e = .returned (.tuple #[.slice none 0 0, .int .i64 12]) ∧ w.grownBy w' none := by
  have hg0 : w.grownBy ((w.alloc (.cells #[.slice none 0 0] 85)).alloc (.cells #[.int .i64 0] 35)) none := grown_trans (World.grownBy_alloc _ _ _) (World.grownBy_alloc _ _ _)
  have hck := hcheck_any (h.later hg0)
  rw [hc] at hck
  simp only [show ((12 : Nat) : Int) = 12 from rfl] at hck
  have hb2 : ((w.alloc (.cells #[.slice none 0 0] 85)).alloc (.cells #[.int .i64 0] 35)).heap[w.heap.size]? = some (.cells #[.slice none 0 0] 85 (0, 0)) :=
    (Below.heap_alloc _ _ _ (by simp)).trans (heap_alloc_new' w _)
  have hb3 : ((w.alloc (.cells #[.slice none 0 0] 85)).alloc (.cells #[.int .i64 0] 35)).heap[w.heap.size + 1]? = some (.cells #[.int .i64 0] 35 (0, 0)) := by
    have := heap_alloc_new' (w.alloc (.cells #[.slice none 0 0] 85)) (.cells #[.int .i64 0] 35)
    rwa [World.size_alloc] at this
  go_enter Tryz.func30, Tryz.ntmps30
  go_wp2_with (go_at_call 62; (with_reducible refine hck.mono ?_); rintro e w1 ⟨rfl, hg1⟩; have k2 : Boxed w1 w.heap.size 85 (.slice none 0 0) := (hg1.block _ (lt_of_block hb2) (by simp)).trans hb2; have k3 : Boxed w1 (w.heap.size + 1) 35 (.int .i64 0) := (hg1.block _ (lt_of_block hb3) (by simp)).trans hb3; have c2 := k2.cell; have c3 := k3.cell; have f2 := k2.frozen; have f3 := k3.frozen)
  have d2 := ((k2.set (.slice none 0 0)).kept (grown_set _ (w.heap.size + 1) 0 (.int .i64 12)) (by simp)).cell
  have d3 := ((k3.kept (grown_set _ w.heap.size 0 (.slice none 0 0)) (by simp)).set (.int .i64 12)).cell
  refine bodyPost_ret (v := .tuple #[.slice none 0 0, .int .i64 12]) (by simp [results, Tryz.results30, go_sem, d2, d3]) rfl ?_
  have G := grown_trans hg0 hg1
  exact ⟨rfl, grown_new (grown_trans (grown_new (grown_trans (grown_any G _) (grown_set _ _ _ _)) (Nat.le_refl _) |> fun g => grown_any g (some (w.heap.size + 1))) (grown_set _ _ _ _)) (by omega)⟩
end
end Go.Proofs.YtoamlkljfmgomaaGreat

/-
  Rows of blocks: where they lie, and what is found in them: the contracts of the library's IndexFunc at blocks, of begins, beside, Before and After.
  Conditions: the blocks lie in memory; there are 1000000 at most.
-/
namespace Go.Proofs.YtoamlkljfmgomaaGreat
open Go.RowKit
set_option linter.unusedVariables false
set_option linter.unusedSimpArgs false

def gO (l : List Blk) (k : Nat) : Nat := (l.getD k default).off
def gS (l : List Blk) (k : Nat) : Nat := (l.getD k default).s
def gU (l : List Blk) (k : Nat) : Bool := (l.getD k default).u
def gW (l : List Blk) (k : Nat) : Int := (l.getD k default).o
def gN (l : List Blk) (k : Nat) : Nat := (l.getD k default).n
/-- Blocks lie in memory, one behind the other, from la on. -/
structure BlksAt (w : World) (la : Option Addr) (l : List Blk) : Prop where
  cells : 0 < l.length → ∃ b off, la = some ⟨b, off, none⟩ ∧ b < w.heap.size ∧ ∀ k, k < l.length → w.cell? ⟨b, off + k * 5, none⟩ = some (.int .u64 (gO l k : Nat)) ∧ w.cell? ⟨b, off + k * 5 + 1, none⟩ = some (.int .u64 (gS l k : Nat)) ∧ w.cell? ⟨b, off + k * 5 + 2, none⟩ = some (.bool (gU l k)) ∧ w.cell? ⟨b, off + k * 5 + 3, none⟩ = some (.int .i64 (gW l k)) ∧ w.cell? ⟨b, off + k * 5 + 4, none⟩ = some (.int .u64 (gN l k : Nat))
theorem BlksAt.later {w w' : World} {la : Option Addr} {l : List Blk} (h : BlksAt w la l) (hg : w.grownBy w' none) : BlksAt w' la l where
  cells := fun hn => by
    obtain ⟨b, off, h1, h2, h3⟩ := h.cells hn
    refine ⟨b, off, h1, Nat.lt_of_lt_of_le h2 hg.size, fun i hi => ?_⟩
    have hb := hg.block b h2 (by simp)
    obtain ⟨c0, c1, c2, c3, c4⟩ := h3 i hi
    exact ⟨(World.cell?_of_block (w := w) (a := ⟨b, off + i * 5, none⟩) hb).trans c0, (World.cell?_of_block (w := w) (a := ⟨b, off + i * 5 + 1, none⟩) hb).trans c1, (World.cell?_of_block (w := w) (a := ⟨b, off + i * 5 + 2, none⟩) hb).trans c2, (World.cell?_of_block (w := w) (a := ⟨b, off + i * 5 + 3, none⟩) hb).trans c3, (World.cell?_of_block (w := w) (a := ⟨b, off + i * 5 + 4, none⟩) hb).trans c4⟩
theorem OwnB.later {w w' : World} {base : Nat} {t : TypeId} {v : Value} {l : List Blk} (h : OwnB w base t v l) (hg : w.grownBy w' none) : OwnB w' base t v l := own_kept h hg
theorem OwnB.mono {w : World} {base base' : Nat} {t : TypeId} {v : Value} {l : List Blk} (h : OwnB w base t v l) (hb : base' ≤ base) : OwnB w base' t v l := World.ownsRow.mono h hb
theorem OwnB.at_ {w : World} {base : Nat} {t : TypeId} {v : Value} {l : List Blk} (h : OwnB w base t v l) : ∃ la c, v = .slice la l.length c ∧ BlksAt w la l := by
  rcases h.2 with ⟨h1, h2⟩ | ⟨g, cap, cur, hv, hbg, hg, rest⟩
  · exact ⟨none, 0, by rw [h1, h2], ⟨fun h => by omega⟩⟩
  · refine ⟨_, cap, hv, ⟨fun _ => ⟨g, 0, rfl, lt_of_block hg, fun k hk => ?_⟩⟩⟩
    have h' := h
    unfold OwnB at h'
    rw [hv] at h'
    have hl := cellsB_len l
    have c0 := (World.ownsRow.cellAt h' (k * 5) (by omega)).trans (cellsB_at l k 0 hk (by decide))
    have c1 := (World.ownsRow.cellAt h' (k * 5 + 1) (by omega)).trans (cellsB_at l k 1 hk (by decide))
    have c2 := (World.ownsRow.cellAt h' (k * 5 + 2) (by omega)).trans (cellsB_at l k 2 hk (by decide))
    have c3 := (World.ownsRow.cellAt h' (k * 5 + 3) (by omega)).trans (cellsB_at l k 3 hk (by decide))
    have c4 := (World.ownsRow.cellAt h' (k * 5 + 4) (by omega)).trans (cellsB_at l k 4 hk (by decide))
    rw [Nat.zero_add]
    exact ⟨c0, c1, c2, c3, c4⟩
/-! the first one that is asked for -/
def fstN (p : Blk → Bool) : List Blk → Option Nat
  | [] => none
  | b :: r => if p b = true then some 0 else (fstN p r).map (· + 1)
def fstZ (p : Blk → Bool) (l : List Blk) : Int := match fstN p l with | some i => (i : Int) | none => -1
section
variable {p : Blk → Bool} {l : List Blk}
theorem fstN_is {k : Nat} (h : k < l.length) (hx : p (l.getD k default) = true) (hj : ∀ j, j < k → p (l.getD j default) = false) : fstN p l = some k := by
  induction l generalizing k with
  | nil => simp at h
  | cons b r ih =>
    unfold fstN
    cases k with
    | zero =>
      have : p b = true := by simpa using hx
      rw [if_pos this]
    | succ k =>
      have h0 : p b = false := by simpa using hj 0 (Nat.succ_pos k)
      rw [if_neg (by simp [h0]), ih (k := k) (by simpa using h) (by simpa using hx) (fun j hj' => by simpa using hj (j + 1) (Nat.succ_lt_succ hj'))]
      rfl
theorem fstN_not (hj : ∀ j, j < l.length → p (l.getD j default) = false) : fstN p l = none := by
  induction l with
  | nil => rfl
  | cons b r ih =>
    unfold fstN
    have h0 : p b = false := by simpa using hj 0 (by simp)
    rw [if_neg (by simp [h0]), ih (fun j hj' => by simpa using hj (j + 1) (by simpa using hj'))]
    rfl
theorem fstN_some {k : Nat} (h : fstN p l = some k) : k < l.length ∧ p (l.getD k default) = true := by
  induction l generalizing k with
  | nil => cases h
  | cons b r ih =>
    unfold fstN at h
    split at h
    · rename_i e
      injection h with h
      subst h
      exact ⟨by simp, by simpa using e⟩
    · cases e : fstN p r with
      | none => rw [e] at h; cases h
      | some i =>
        rw [e] at h
        injection h with h
        subst h
        obtain ⟨h1, h2⟩ := ih e
        exact ⟨by simpa using h1, by simpa using h2⟩
theorem fstN_skip {k : Nat} (h : fstN p l = some k) : ∀ j, j < k → p (l.getD j default) = false := by
  induction l generalizing k with
  | nil => cases h
  | cons b r ih =>
    unfold fstN at h
    split at h
    · injection h with h
      subst h
      intro j hj
      omega
    · rename_i e0
      cases e : fstN p r with
      | none => rw [e] at h; cases h
      | some i =>
        rw [e] at h
        injection h with h
        subst h
        intro j hj
        cases j with
        | zero => simpa using e0
        | succ j => simpa using ih e j (Nat.lt_of_succ_lt_succ hj)
theorem fstN_none (h : fstN p l = none) : ∀ j, j < l.length → p (l.getD j default) = false := by
  intro j hj
  cases e : p (l.getD j default) with
  | false => rfl
  | true =>
    exfalso
    induction l generalizing j with
    | nil => simp at hj
    | cons b r ih =>
      unfold fstN at h
      split at h
      · cases h
      · rename_i e0
        have h' : fstN p r = none := by
          cases e1 : fstN p r with
          | none => rfl
          | some i => rw [e1] at h; cases h
        cases j with
        | zero => exact e0 (by simpa using e)
        | succ j => exact ih h' j (by simpa using hj) (by simpa using e)
end
/-- so many places behind the first one that is asked for -/
def besN (p : Blk → Bool) (l : List Blk) (d : Int) : Option Blk :=
  match fstN p l with
  | none => none
  | some i => if 0 ≤ (i : Int) + d ∧ (i : Int) + d < l.length then some (l.getD ((i : Int) + d).toNat default) else none
def besB (p : Blk → Bool) (l : List Blk) (d : Int) : Blk := (besN p l d).getD Blk.none
def pO (off : Nat) (b : Blk) : Bool := decide (b.off = off)
def pF (payload : Nat) (b : Blk) : Bool := b.u && decide ((b.off + 32) % 18446744073709551616 = payload)
/-! ### the closures -/
theorem find1_any (b : Blk) (payload cb : Nat) {w : World} (hc : w.cell? ⟨cb, 0, none⟩ = some (.int .u64 payload)) :
    Calls Tryz.prog 51 #[.agg #[.int .u64 (b.off : Nat), .int .u64 (b.s : Nat), .bool b.u, .int .i64 b.o, .int .u64 (b.n : Nat)], .pointer (some ⟨cb, 0, none⟩)] w fun e w' => e = .returned (.bool (pF payload b)) ∧ w.grownBy w' none := by
  have hg0 : w.grownBy (w.alloc (.cells #[.int .u64 (b.off : Nat), .int .u64 (b.s : Nat), .bool b.u, .int .i64 b.o, .int .u64 (b.n : Nat)] 66)) none := World.grownBy_alloc _ _ _
  have hc1 : (w.alloc (.cells #[.int .u64 (b.off : Nat), .int .u64 (b.s : Nat), .bool b.u, .int .i64 b.o, .int .u64 (b.n : Nat)] 66)).cell? ⟨cb, 0, none⟩ = some (.int .u64 payload) := Lib.cell?_alloc_some _ hc
  have e : pF payload b = (b.u && (IntKind.u64.wrap ((b.off : Int) + 32) == (payload : Int))) := by
    unfold pF
    congr 1
    rw [Bool.eq_iff_iff, decide_eq_true_iff, beq_iff_eq, IntKind.wrap_u64]
    omega
  rw [e]
  cases hu : b.u with
  | false =>
    rw [hu] at hg0 hc1
    go_enter Tryz.func51, Tryz.ntmps51
    go_wp2
    go_ret
    exact ⟨rfl, hg0⟩
  | true =>
    rw [hu] at hg0 hc1
    rw [Bool.true_and]
    go_enter Tryz.func51, Tryz.ntmps51
    go_wp2
    go_ret
    exact ⟨rfl, hg0⟩
/-! ### IndexFunc -/
theorem fstZ_is {p : Blk → Bool} {l : List Blk} {k : Nat} (h : k < l.length) (hx : p (l.getD k default) = true) (hj : ∀ j, j < k → p (l.getD j default) = false) : (k : Int) = fstZ p l := by
  unfold fstZ
  rw [fstN_is h hx hj]
theorem fstZ_not {p : Blk → Bool} {l : List Blk} (hj : ∀ j, j < l.length → p (l.getD j default) = false) : -1 = fstZ p l := by
  unfold fstZ
  rw [fstN_not hj]
/-- What is asked of a predicate over these blocks. -/
def Asks (g cb : Nat) (p : Blk → Bool) (w : World) : Prop := ∀ W, w.grownBy W none → ∀ b : Blk, Calls Tryz.prog g #[.agg #[.int .u64 (b.off : Nat), .int .u64 (b.s : Nat), .bool b.u, .int .i64 b.o, .int .u64 (b.n : Nat)], .pointer (some ⟨cb, 0, none⟩)] W fun e w' => e = .returned (.bool (p b)) ∧ W.grownBy w' none
theorem Asks.later {g cb : Nat} {p : Blk → Bool} {w w' : World} (h : Asks g cb p w) (hg : w.grownBy w' none) : Asks g cb p w' := fun W hW b => h W (grown_trans hg hW) b
theorem asks_find (payload cb : Nat) {w : World} (hb : cb < w.heap.size) (hc : w.cell? ⟨cb, 0, none⟩ = some (.int .u64 payload)) : Asks 51 cb (pF payload) w := fun W hW b =>
  find1_any b payload cb ((World.cell?_of_block (w := w) (a := ⟨cb, 0, none⟩) (hW.block cb hb (by simp))).trans hc)
set_option maxHeartbeats 1000000 in
theorem indexfunc_any {g cb : Nat} (eg : ∀ args w, (callFunc g args).run Tryz.prog w = .ok (.enter g args) w) {p : Blk → Bool} {w : World} {la : Option Addr} {c : Nat} {l : List Blk} (h : BlksAt w la l) (hl : l.length ≤ 1000000) (ha : Asks g cb p w) :
    Calls Tryz.prog 89 #[.slice la l.length c, .func (.func g) #[] #[.pointer (some ⟨cb, 0, none⟩)]] w fun e w' => e = .returned (.int .i64 (fstZ p l)) ∧ w.grownBy w' none := by
  obtain ⟨n, hn⟩ : ∃ n, l.length = n := ⟨_, rfl⟩
  have HN := Lib.hid hn
  rw [hn] at hl ⊢
  clear hn
  go_enter Tryz.func89, Tryz.ntmps89
  go_wp2
  go_loopw [8] (fun i wr => ∃ k : Nat, k ≤ n ∧ i = .int .i64 k ∧ w.grownBy wr none ∧ Hid (∀ j, j < k → p (l.getD j default) = false)) (fun i _ => n - (intOf i).toNat)
  case atStart => exact ⟨0, Nat.zero_le _, rfl, grown_refl _ _, Lib.hid (fun j hj => absurd hj (Nat.not_lt_zero _))⟩
  case round =>
    obtain ⟨k, hk, rfl, hg, HJ⟩ := hrel
    rcases Nat.lt_or_ge k n with h1 | h1
    · obtain ⟨b, off, rfl, hb, hcs⟩ := (h.later hg).cells (by rw [HN.out]; omega)
      obtain ⟨c0, c1, c2, c3, c4⟩ := hcs k (by rw [HN.out]; exact h1)
      have hcall : Calls Tryz.prog g #[.agg #[.int .u64 (gO l k : Nat), .int .u64 (gS l k : Nat), .bool (gU l k), .int .i64 (gW l k), .int .u64 (gN l k : Nat)], .pointer (some ⟨cb, 0, none⟩)] wr _ := ha wr hg (l.getD k default)
      obtain ⟨r, hr⟩ : ∃ r, p (l.getD k default) = r := ⟨_, rfl⟩
      rw [hr] at hcall
      have HR := Lib.hid hr
      clear hr hcs h ha
      cases r with
      | true =>
        go_wp2_with (go_at_fn g; refine hcall.mono ?_; rintro e w' ⟨rfl, hg1⟩)
        go_ret
        exact ⟨ret_int' (fstZ_is (by rw [HN.out]; exact h1) HR.out HJ.out), grown_trans hg hg1⟩
      | false =>
        go_wp2_with (go_at_fn g; refine hcall.mono ?_; rintro e w' ⟨rfl, hg1⟩)
        go_roundw
        case rel =>
          refine ⟨k + 1, by omega, by go_num, grown_trans hg hg1, Lib.hid fun j hj => ?_⟩
          rcases Nat.lt_or_ge j k with h' | h'
          · exact HJ.out j h'
          · rw [show j = k by omega]; exact HR.out
        case measure => simp [intOf]; omega
    · obtain rfl : k = n := by omega
      clear h ha
      go_wp2
      go_ret
      exact ⟨ret_int' (fstZ_not (by rw [HN.out]; exact HJ.out)), hg⟩
end Go.Proofs.YtoamlkljfmgomaaGreat

/-
  Package phys: the contracts of beside, Before, After, Find and Merged.
  Conditions: the blocks lie in memory; there are 1000000 at most; the Tx stands in memory.
-/
namespace Go.Proofs.YtoamlkljfmgomaaGreat
open Go.RowKit
set_option linter.unusedVariables false
set_option linter.unusedSimpArgs false

/-- a block as a value -/
def Blk.val (b : Blk) : Value := .agg #[.int .u64 (b.off : Nat), .int .u64 (b.s : Nat), .bool b.u, .int .i64 b.o, .int .u64 (b.n : Nat)]
def zeroB : Value := .agg #[.int .u64 0, .int .u64 0, .bool false, .int .i64 0, .int .u64 0]
set_option maxHeartbeats 2000000 in
theorem beside_any {g cb : Nat} (eg : ∀ args w, (callFunc g args).run Tryz.prog w = .ok (.enter g args) w) {p : Blk → Bool} {w : World} {la : Option Addr} {c : Nat} {l : List Blk} (h : BlksAt w la l) (hl : l.length ≤ 1000000) (ha : Asks g cb p w) (d : Int) (hd : -1 ≤ d ∧ d ≤ 1) :
    Calls Tryz.prog 50 #[.slice la l.length c, .int .i64 d, .func (.func g) #[] #[.pointer (some ⟨cb, 0, none⟩)]] w fun e w' => e = .returned (.tuple #[(besB p l d).val, .bool (besN p l d).isSome]) ∧ w.grownBy w' none := by
  have hg0 : w.grownBy (w.alloc (.cells #[.int .u64 0, .int .u64 0, .bool false, .int .i64 0, .int .u64 0] 66)) none := World.grownBy_alloc _ _ _
  have hix : ∀ wr, (w.alloc (.cells #[.int .u64 0, .int .u64 0, .bool false, .int .i64 0, .int .u64 0] 66)) = wr → Calls Tryz.prog 89 #[.slice la l.length c, .func (.func g) #[] #[.pointer (some ⟨cb, 0, none⟩)]] wr _ := fun wr e => by
    subst e
    exact indexfunc_any eg (h.later hg0) hl (ha.later hg0)
  unfold besB
  cases hf : fstN p l with
  | none =>
    have hz : fstZ p l = -1 := by unfold fstZ; rw [hf]
    have hb : besN p l d = none := by unfold besN; rw [hf]
    rw [hz] at hix
    rw [hb]
    obtain ⟨n, hn⟩ : ∃ n, l.length = n := ⟨_, rfl⟩
    rw [hn] at hix ⊢
    clear hn hz hb hf h ha hl
    go_enter Tryz.func50, Tryz.ntmps50
    go_wp2_with (go_at_call 89; (with_reducible refine (hix _ rfl).mono ?_); rintro e w1 ⟨rfl, hg1⟩; have HB := Lib.hid (five_first hg1); obtain ⟨d0, d1, d2, d3, d4⟩ := five_cells HB.out; obtain ⟨f0, f1, f2, f3, f4⟩ := five_frozen HB.out)
    have hb := five_put HB.out (x' := .int .u64 0) (y' := .int .u64 0) (z' := .bool false) (p' := .int .i64 0) (q' := .int .u64 0)
    obtain ⟨k0, k1, k2, k3, k4⟩ := five_cells hb
    refine bodyPost_ret (v := .tuple #[.agg #[.int .u64 0, .int .u64 0, .bool false, .int .i64 0, .int .u64 0], .bool false]) (by simp [results, Tryz.results50, go_sem, k0, k1, k2, k3, k4]) rfl ?_
    exact ⟨rfl, five_grown (grown_trans hg0 hg1) (Nat.le_refl _)⟩
  | some i =>
    have hi := (fstN_some hf).1
    have hz : fstZ p l = (i : Int) := by unfold fstZ; rw [hf]
    rw [hz] at hix
    have hb : besN p l d = if 0 ≤ (i : Int) + d ∧ (i : Int) + d < l.length then some (l.getD ((i : Int) + d).toNat default) else none := by unfold besN; rw [hf]
    obtain ⟨j, hj⟩ : ∃ j, (i : Int) + d = j := ⟨_, rfl⟩
    have e1 : IntKind.i64.wrap ((i : Int) + d) = j := by rw [IntKind.wrap_i64]; omega
    have hi0 : ¬ (i : Int) < 0 := by omega
    rw [hj] at hb
    rw [hb]
    obtain ⟨n, hn⟩ : ∃ n, l.length = n := ⟨_, rfl⟩
    by_cases h0 : j < 0
    · rw [if_neg (by omega)]
      rw [hn] at hix ⊢
      clear hn hz hb hf h ha hl hi hj
      go_enter Tryz.func50, Tryz.ntmps50
      go_wp2_with (go_at_call 89; (with_reducible refine (hix _ rfl).mono ?_); rintro e w1 ⟨rfl, hg1⟩; have HB := Lib.hid (five_first hg1); obtain ⟨d0, d1, d2, d3, d4⟩ := five_cells HB.out; obtain ⟨f0, f1, f2, f3, f4⟩ := five_frozen HB.out)
      have hb := five_put HB.out (x' := .int .u64 0) (y' := .int .u64 0) (z' := .bool false) (p' := .int .i64 0) (q' := .int .u64 0)
      obtain ⟨k0, k1, k2, k3, k4⟩ := five_cells hb
      refine bodyPost_ret (v := .tuple #[.agg #[.int .u64 0, .int .u64 0, .bool false, .int .i64 0, .int .u64 0], .bool false]) (by simp [results, Tryz.results50, go_sem, k0, k1, k2, k3, k4]) rfl ?_
      exact ⟨rfl, five_grown (grown_trans hg0 hg1) (Nat.le_refl _)⟩
    · by_cases h1 : (n : Int) ≤ j
      · rw [if_neg (by omega)]
        rw [hn] at hix ⊢
        clear hn hz hb hf h ha hl hi hj
        go_enter Tryz.func50, Tryz.ntmps50
        go_wp2_with (go_at_call 89; (with_reducible refine (hix _ rfl).mono ?_); rintro e w1 ⟨rfl, hg1⟩; have HB := Lib.hid (five_first hg1); obtain ⟨d0, d1, d2, d3, d4⟩ := five_cells HB.out; obtain ⟨f0, f1, f2, f3, f4⟩ := five_frozen HB.out)
        have hb := five_put HB.out (x' := .int .u64 0) (y' := .int .u64 0) (z' := .bool false) (p' := .int .i64 0) (q' := .int .u64 0)
        obtain ⟨k0, k1, k2, k3, k4⟩ := five_cells hb
        refine bodyPost_ret (v := .tuple #[.agg #[.int .u64 0, .int .u64 0, .bool false, .int .i64 0, .int .u64 0], .bool false]) (by simp [results, Tryz.results50, go_sem, k0, k1, k2, k3, k4]) rfl ?_
        exact ⟨rfl, five_grown (grown_trans hg0 hg1) (Nat.le_refl _)⟩
      · rw [if_pos (by omega)]
        obtain ⟨m, rfl⟩ := Int.eq_ofNat_of_zero_le (by omega : 0 ≤ j)
        have hmn : m < n := by omega
        have hval : ((some (l.getD ((m : Int)).toNat default)).getD Blk.none).val = .agg #[.int .u64 (gO l m : Nat), .int .u64 (gS l m : Nat), .bool (gU l m), .int .i64 (gW l m), .int .u64 (gN l m : Nat)] := rfl
        rw [hval]
        obtain ⟨b, off, rfl, hb, hcs⟩ := (h.later hg0).cells (by omega)
        have hcs' := fun (w1 : World) (hg1 : (w.alloc (.cells #[.int .u64 0, .int .u64 0, .bool false, .int .i64 0, .int .u64 0] 66)).grownBy w1 none) => ((h.later hg0).later hg1).cells (by omega)
        have HC := Lib.hid hcs'
        have HN := Lib.hid hn
        rw [hn] at hix ⊢
        clear hn hz hb hf h ha hl hi hj hcs hcs' hval
        go_enter Tryz.func50, Tryz.ntmps50
        go_wp2_with (go_at_call 89; (with_reducible refine (hix _ rfl).mono ?_); rintro e w1 ⟨rfl, hg1⟩; have HB := Lib.hid (five_first hg1); obtain ⟨d0, d1, d2, d3, d4⟩ := five_cells HB.out; obtain ⟨f0, f1, f2, f3, f4⟩ := five_frozen HB.out; obtain ⟨b2, off2, hbo, hb2, hcs⟩ := HC.out _ hg1; injection hbo with hbo; injection hbo with hbo1 hbo2; subst hbo1; subst hbo2; obtain ⟨c0, c1, c2, c3, c4⟩ := hcs m (by rw [HN.out]; exact hmn); clear hcs)
        have hb := five_put HB.out (x' := .int .u64 (gO l m : Nat)) (y' := .int .u64 (gS l m : Nat)) (z' := .bool (gU l m)) (p' := .int .i64 (gW l m)) (q' := .int .u64 (gN l m : Nat))
        obtain ⟨k0, k1, k2, k3, k4⟩ := five_cells hb
        refine bodyPost_ret (v := .tuple #[.agg #[.int .u64 (gO l m : Nat), .int .u64 (gS l m : Nat), .bool (gU l m), .int .i64 (gW l m), .int .u64 (gN l m : Nat)], .bool true]) (by simp [results, Tryz.results50, go_sem, k0, k1, k2, k3, k4]) rfl ?_
        exact ⟨rfl, five_grown (grown_trans hg0 hg1) (Nat.le_refl _)⟩
section
variable {w : World} {T M : Nat} {R : Option Nat} {B D : Nat} {ws : List Nat} {l : List (Nat × Nat)}
/-- how many blocks there are, and whether they end at the heap's end; none, where the head isn't checked -/
structure Heap (ws : List Nat) (l : List (Nat × Nat)) (bl : List Blk) (err : Nat) : Prop where
  is : (chkN ws l = 12 ∧ bl = [] ∧ err = 12) ∨ (chkN ws l = 0 ∧ ∃ N ok, Walks (txSee ws l) N ok ∧ bl = wkL (txSee ws l) N ok ∧ err = wkE ok)
  len : bl.length ≤ 1000000
theorem chk_or (ws : List Nat) (l : List (Nat × Nat)) : chkN ws l = 0 ∨ chkN ws l = 12 := by
  unfold chkN
  split
  · exact .inl rfl
  · exact .inr rfl
theorem heap_some (ws : List Nat) (l : List (Nat × Nat)) (hm : ws.length ≤ 131072) : ∃ bl err, Heap ws l bl err := by
  rcases chk_or ws l with hc | hc
  · obtain ⟨N, ok, hw⟩ := walks_some (txSee ws l)
    refine ⟨_, _, .inr ⟨hc, N, ok, hw, rfl, rfl⟩, ?_⟩
    have h1 := hw.len
    have h2 : chkP ws l := by
      unfold chkN at hc
      split at hc
      · assumption
      · cases hc
    have h3 := h2.1.2.2
    unfold wkL
    split
    · rw [blks_len]; omega
    · exact Nat.zero_le _
  · exact ⟨[], 12, .inl ⟨hc, rfl, rfl⟩, Nat.zero_le _⟩
theorem walks_small {ws : List Nat} {l : List (Nat × Nat)} (hm : ws.length ≤ 131072) (hc : chkN ws l = 0) {N : Nat} {ok : Bool} (hw : Walks (txSee ws l) N ok) : N ≤ 1000000 := by
  have h1 := hw.len
  have h2 : chkP ws l := by
    unfold chkN at hc
    split at hc
    · assumption
    · cases hc
  have h3 := h2.1.2.2
  omega
theorem pwalk_any (h : Thinks w T M R B D ws l) {bl : List Blk} {err : Nat} (hb : Heap ws l bl err) :
    Calls Tryz.prog 30 #[.pointer (some ⟨T, 0, none⟩)] w fun e w' => ∃ v, e = .returned (.tuple #[v, .int .i64 (err : Nat)]) ∧ OwnB w' w.heap.size 66 v bl ∧ w.grownBy w' none := by
  rcases hb.is with ⟨hc, rfl, rfl⟩ | ⟨hc, N, ok, hw, rfl, rfl⟩
  · exact (pwalk_no h hc).mono fun e w' ⟨h1, h2⟩ => ⟨_, h1, World.ownsRow_nil _ _ _ _, h2⟩
  · exact pwalk_yes h hc hw (walks_small h.seg.most hc hw)
set_option maxHeartbeats 1000000 in
theorem pfind_any (h : Thinks w T M R B D ws l) {bl : List Blk} {err : Nat} (hb : Heap ws l bl err) (off : Nat) :
    Calls Tryz.prog 18 #[.pointer (some ⟨T, 0, none⟩), .int .u64 off] w fun e w' => e = .returned (.tuple #[(besB (pF off) bl 0).val, .bool (besN (pF off) bl 0).isSome]) ∧ w.grownBy w' none := by
  have hg0 : w.grownBy ((w.alloc (.cells #[.int .u64 off] 23)).alloc (.cells #[.int .u64 0, .int .u64 0, .bool false, .int .i64 0, .int .u64 0] 66)) none := grown_trans (World.grownBy_alloc _ _ _) (World.grownBy_alloc _ _ _)
  have hwk := pwalk_any (h.later hg0) hb
  have hb0 : ((w.alloc (.cells #[.int .u64 off] 23)).alloc (.cells #[.int .u64 0, .int .u64 0, .bool false, .int .i64 0, .int .u64 0] 66)).heap[w.heap.size]? = some (.cells #[.int .u64 off] 23 (0, 0)) := (Below.heap_alloc _ _ _ (by simp)).trans (heap_alloc_new' w _)
  have hb1 : ((w.alloc (.cells #[.int .u64 off] 23)).alloc (.cells #[.int .u64 0, .int .u64 0, .bool false, .int .i64 0, .int .u64 0] 66)).heap[w.heap.size + 1]? = some (.cells #[.int .u64 0, .int .u64 0, .bool false, .int .i64 0, .int .u64 0] 66 (0, 0)) := by
    have := heap_alloc_new' (w.alloc (.cells #[.int .u64 off] 23)) (.cells #[.int .u64 0, .int .u64 0, .bool false, .int .i64 0, .int .u64 0] 66)
    rwa [World.size_alloc] at this
  have hbe := fun (w1 : World) (la : Option Addr) (c : Nat) (hat : BlksAt w1 la bl) (hg : ((w.alloc (.cells #[.int .u64 off] 23)).alloc (.cells #[.int .u64 0, .int .u64 0, .bool false, .int .i64 0, .int .u64 0] 66)).grownBy w1 none) =>
    beside_any (g := 51) (cb := w.heap.size) (c := c) (enters_of Tryz.func51 (by kernel_rfl) rfl) hat hb.len (asks_find off w.heap.size (lt_of_block ((hg.block _ (lt_of_block hb0) (by simp)).trans hb0)) (cell_of_one ((hg.block _ (lt_of_block hb0) (by simp)).trans hb0))) 0 (by omega)
  obtain ⟨r, hr⟩ : ∃ r, besB (pF off) bl 0 = r := ⟨_, rfl⟩
  obtain ⟨s, hs⟩ : ∃ s, (besN (pF off) bl 0).isSome = s := ⟨_, rfl⟩
  rw [hr, hs] at hbe ⊢
  simp only [Blk.val] at hbe ⊢
  clear hr hs hb h
  go_enter Tryz.func18, Tryz.ntmps18
  go_wp2_with (first | (go_at_call 30; refine hwk.mono ?_; rintro e w1 ⟨v, rfl, ho1, hg1⟩; obtain ⟨la, c, hv, hat⟩ := ho1.at_; subst hv) | (go_at_call 50; refine (hbe _ _ _ hat hg1).mono ?_; rintro e w2 ⟨rfl, hg2⟩; have HB := Lib.hid (((grown_trans hg1 hg2).block _ (lt_of_block hb1) (by simp)).trans hb1); obtain ⟨d0, d1, d2, d3, d4⟩ := five_cells HB.out; obtain ⟨f0, f1, f2, f3, f4⟩ := five_frozen HB.out))
  have hb := five_put HB.out (x' := .int .u64 (r.off : Nat)) (y' := .int .u64 (r.s : Nat)) (z' := .bool r.u) (p' := .int .i64 r.o) (q' := .int .u64 (r.n : Nat))
  obtain ⟨k0, k1, k2, k3, k4⟩ := five_cells hb
  refine bodyPost_ret (v := .tuple #[.agg #[.int .u64 (r.off : Nat), .int .u64 (r.s : Nat), .bool r.u, .int .i64 r.o, .int .u64 (r.n : Nat)], .bool s]) (by simp [results, Tryz.results18, go_sem, k0, k1, k2, k3, k4]) rfl ?_
  exact ⟨rfl, five_grown (grown_trans hg0 (grown_trans hg1 hg2)) (by omega)⟩
end
theorem ret_boolq {a b : Bool} (h : a = b) : Ending.returned (.bool a) = .returned (.bool b) := by rw [h]
/-! ### Merged -/
def mergedL (l : List Blk) : Bool := (List.range l.length).all fun i => i == 0 || gU l (i - 1) || gU l i
theorem merged_yes {l : List Blk} {n : Nat} (hn : l.length = n) (h : ∀ j, j < n → 1 ≤ j → ¬ (gU l (j - 1) = false ∧ gU l j = false)) : true = mergedL l := by
  unfold mergedL
  refine (List.all_eq_true.2 fun i hi => ?_).symm
  have h1 := h i (by rw [← hn]; exact List.mem_range.1 hi)
  by_cases h0 : i = 0
  · simp [h0]
  · have h2 := h1 (by omega)
    cases e1 : gU l (i - 1) <;> cases e2 : gU l i <;> simp_all
theorem merged_no {l : List Blk} {k : Nat} (hk : k < l.length) (h1 : 1 ≤ k) (h2 : gU l (k - 1) = false) (h3 : gU l k = false) : false = mergedL l := by
  unfold mergedL
  refine (List.all_eq_false.2 ⟨k, List.mem_range.2 hk, ?_⟩).symm
  simp [h2, h3]
  omega
end Go.Proofs.YtoamlkljfmgomaaGreat

/-
  Blocks that are laid one behind the other, as plain mathematics of layer 6.
  No condition.
-/
namespace Go.Proofs.YtoamlkljfmgomaaGreat
open Go.RowKit
set_option linter.unusedVariables false
set_option linter.unusedSimpArgs false

theorem offs_step {f : Nat → Nat} {n : Nat} (h : ∀ k, k < n → bkP f (offs f k)) {i j : Nat} (hij : i < j) (hj : j ≤ n) : offs f i + usz (f (offs f i)) ≤ offs f j ∧ offs f i + 48 ≤ offs f j := by
  induction j with
  | zero => omega
  | succ j ih =>
    have h2 := (bk_ge (h j (by omega))).1
    have e : offs f (j + 1) = offs f j + usz (f (offs f j)) := rfl
    rcases Nat.lt_succ_iff_lt_or_eq.1 hij with h3 | rfl
    · have := ih h3 (by omega); omega
    · omega
/-- what stands ahead of off hangs on the words ahead of it alone -/
theorem bkP_ahead {f g : Nat → Nat} {off x : Nat} (he : ∀ y, y < off → g y = f y) (h : bkP f x) (hx : x + usz (f x) ≤ off) : bkP g x ∧ usz (g x) = usz (f x) := by
  have h1 := bk_ge h
  have e1 : g x = f x := he x (by omega)
  have e2 : g 16 = f 16 := he 16 (by omega)
  have e3 : g (x + usz (f x) - 8) = f (x + usz (f x) - 8) := he _ (by omega)
  have e4 : g (x + 8) = f (x + 8) := he _ (by omega)
  refine ⟨?_, by rw [e1]⟩
  unfold bkP rdP at h ⊢
  rw [e1, e2, e3, e4]
  exact h
theorem offs_ahead {f g : Nat → Nat} {n off : Nat} (h : ∀ k, k < n → bkP f (offs f k)) (ho : offs f n = off) (he : ∀ y, y < off → g y = f y) : ∀ k, k ≤ n → offs g k = offs f k ∧ (k < n → bkP g (offs g k)) := by
  intro k
  induction k with
  | zero =>
    intro _
    refine ⟨rfl, fun hk => ?_⟩
    exact (bkP_ahead he (h 0 hk) (by rw [← ho]; exact (offs_step h hk (Nat.le_refl _)).1)).1
  | succ k ih =>
    intro hk
    obtain ⟨e1, h1⟩ := ih (by omega)
    have hb := bkP_ahead he (h k (by omega)) (by rw [← ho]; exact (offs_step h (by omega) (Nat.le_refl _)).1)
    have e2 : offs g (k + 1) = offs f (k + 1) := by
      show offs g k + usz (g (offs g k)) = offs f k + usz (f (offs f k))
      rw [e1, hb.2]
    refine ⟨e2, fun hk2 => ?_⟩
    rw [e2]
    exact (bkP_ahead he (h (k + 1) hk2) (by rw [← ho]; exact (offs_step h hk2 (Nat.le_refl _)).1)).1
/-- So many blocks are laid from the heap's begin on, up to off. -/
structure LayP (ws : List Nat) (l : List (Nat × Nat)) (off n : Nat) : Prop where
  ok : TxOk ws l
  low : ∀ x, x < 3776 → txSee ws l x = txSee ws [] x
  at_ : offs (txSee ws l) n = off
  good : ∀ k, k < n → bkP (txSee ws l) (offs (txSee ws l) k)
  al : off % 16 = 0 ∧ 3776 ≤ off
/-- the words that a block takes -/
def layB (ws : List Nat) (l : List (Nat × Nat)) (off s p : Nat) : List (Nat × Nat) := txStore ws (txStore ws l off p) (off + s - 8) p
theorem layB_see {ws : List Nat} {l : List (Nat × Nat)} {off s p : Nat} (h1 : stands ws off) (h2 : stands ws (off + s - 8)) (h48 : 48 ≤ s) : txSee ws (layB ws l off s p) off = p ∧ txSee ws (layB ws l off s p) (off + s - 8) = p ∧ ∀ x, x ≠ off → x ≠ off + s - 8 → txSee ws (layB ws l off s p) x = txSee ws l x := by
  unfold layB
  refine ⟨?_, ?_, fun x h3 h4 => ?_⟩
  · rw [see_stored h2, if_neg (by omega), see_stored h1, if_pos rfl]
  · rw [see_stored h2, if_pos rfl]
  · rw [see_stored h2, if_neg h4, see_stored h1, if_neg h3]
theorem fmt4480 : fitsP 4480 4800 := by unfold fitsP; omega
theorem see4480 : txSee (fmt48 4480) [] 16 = 4480 := by rw [fmt48_yes fmt4480, see_nil]; exact fmt48_16 fmt4480
theorem LayP.first : LayP (fmt48 4480) [] 3776 0 := ⟨TxOk.empty _, fun _ _ => rfl, rfl, fun k hk => absurd hk (Nat.not_lt_zero _), by omega⟩
section
variable {l : List (Nat × Nat)} {off n : Nat}
theorem LayP.top (h : LayP (fmt48 4480) l off n) : txSee (fmt48 4480) l 16 = 4480 := by rw [h.low 16 (by decide)]; exact see4480
/-- a block is laid behind, m: how its words are otherwise thought of -/
theorem LayP.next (h : LayP (fmt48 4480) l off n) {s : Nat} {u : Bool} {o : Nat} (hm : mayP s u o) (hs : off + s ≤ 4480) {l' : List (Nat × Nat)} (hok : TxOk (fmt48 4480) l') (h1 : txSee (fmt48 4480) l' off = packN s u o) (h2 : txSee (fmt48 4480) l' (off + s - 8) = packN s u o) (h3 : u = true → txSee (fmt48 4480) l' (off + 8) + 40 ≤ s)
    (h4 : ∀ x, x < off → txSee (fmt48 4480) l' x = txSee (fmt48 4480) l x) : LayP (fmt48 4480) l' (off + s) (n + 1) := by
  have hal := h.al
  have ha := offs_ahead (g := txSee (fmt48 4480) l') h.good h.at_ h4
  have e16 : txSee (fmt48 4480) l' 16 = 4480 := by rw [h4 16 (by omega)]; exact h.top
  have hoff := (ha n (Nat.le_refl _)).1
  rw [h.at_] at hoff
  obtain ⟨_, p2, p3, p4, p5⟩ := unpack_pack hm
  have hmm := hm
  unfold mayP at hmm
  refine ⟨hok, fun x hx => (h4 x (by omega)).trans (h.low x hx), ?_, fun k hk => ?_, by omega⟩
  · show offs (txSee (fmt48 4480) l') n + usz (txSee (fmt48 4480) l' (offs (txSee (fmt48 4480) l') n)) = off + s
    rw [hoff, h1, p3]
  · rcases Nat.lt_succ_iff_lt_or_eq.1 hk with h5 | rfl
    · exact (ha k (by omega)).2 h5
    · rw [hoff]
      unfold bkP rdP
      rw [h1, p3, p4, e16]
      exact ⟨⟨p2, by unfold inP; omega, h2⟩, h3⟩
/-- The heap of a segment in which blocks are laid. -/
structure Laid6 (l : List (Nat × Nat)) (N : Nat) : Prop where
  ok : TxOk (fmt48 4480) l
  chk : chkN (fmt48 4480) l = 0
  walks : Walks (txSee (fmt48 4480) l) N true
  ends : offs (txSee (fmt48 4480) l) N = 4480
  some : 0 < N
theorem LayP.done (h : LayP (fmt48 4480) l 4480 n) (hn : 0 < n) : Laid6 l n := by
  refine ⟨h.ok, ?_, ⟨fun k hk => ⟨?_, h.good k hk⟩, ?_⟩, h.at_, hn⟩
  · have hc : chkP (fmt48 4480) l := by
      unfold chkP
      rw [h.low 16 (by decide), h.low 0 (by decide), h.low 8 (by decide), h.low 40 (by decide), fmt48_len, see4480, see_nil, see_nil, see_nil, fmt48_yes fmt4480]
      exact ⟨fmt4480, fmt48_0 fmt4480, fmt48_8 fmt4480, fmt48_40 fmt4480⟩
    exact if_pos hc
  · rw [h.top]
    have := (bk_ge (h.good k hk)).2.2.1
    rw [h.top] at this
    exact this
  · rw [if_pos rfl, h.top, h.at_]
    exact Nat.le_refl _
end
end Go.Proofs.YtoamlkljfmgomaaGreat

/-
  Layer 5's plain answer Write, where a block is laid.
  Conditions: the plain Tx stands in memory; there are 131072 words at most.
-/
namespace Go.Proofs.YtoamlkljfmgomaaGreat
open Go.RowKit
set_option linter.unusedVariables false
set_option linter.unusedSimpArgs false

/-- the three boxes that Write makes first, whatever is made behind them -/
theorem three_boxes {w w' : World} {a b c x y p q : Value} {t t2 t3 : TypeId} (hg : (((w.alloc (.cells #[x, y] t)).alloc (.cells #[a, b, c] t2)).alloc (.cells #[p, q] t3)).grownBy w' none) :
    w'.heap[w.heap.size]? = some (.cells #[x, y] t (0, 0)) ∧ w'.heap[w.heap.size + 1]? = some (.cells #[a, b, c] t2 (0, 0)) ∧ w'.heap[w.heap.size + 2]? = some (.cells #[p, q] t3 (0, 0)) := by
  have hga := World.grownBy_alloc ((w.alloc (.cells #[x, y] t)).alloc (.cells #[a, b, c] t2)) (.cells #[p, q] t3) none
  obtain ⟨h1, h2⟩ := two_first (grown_trans hga hg)
  have h3 := heap_alloc_new' ((w.alloc (.cells #[x, y] t)).alloc (.cells #[a, b, c] t2)) (.cells #[p, q] t3)
  rw [World.size_alloc, World.size_alloc] at h3
  exact ⟨h1, h2, (hg.block _ (lt_of_block h3) (by simp)).trans h3⟩
section
variable {w : World} {base : Nat} {wv pv : Value} {ws : List Nat} {l : List (Nat × Nat)}
end
end Go.Proofs.YtoamlkljfmgomaaGreat

/-
  Layer 6's plain answer Lay: blocks are laid one behind the other, and what is left is free.
  Conditions: the plain Tx is a formatted segment's of 4800 bytes, of which 4480 are used; the pieces lie in memory; there are 20 at most.
-/
namespace Go.Proofs.YtoamlkljfmgomaaGreat
open Go.RowKit
set_option linter.unusedVariables false
set_option linter.unusedSimpArgs false

/-- Pieces lie in memory. -/
structure PiecesAt (w : World) (la : Option Addr) (n : Nat) (A B C : Nat → Nat) : Prop where
  lt : ∀ i, A i < 256 ∧ B i < 256 ∧ C i < 65536
  cells : 0 < n → ∃ b off, la = some ⟨b, off, none⟩ ∧ b < w.heap.size ∧ ∀ i, i < n → w.cell? ⟨b, off + i * 3, none⟩ = some (.int .u8 (A i : Nat)) ∧ w.cell? ⟨b, off + i * 3 + 1, none⟩ = some (.int .u8 (B i : Nat)) ∧ w.cell? ⟨b, off + i * 3 + 2, none⟩ = some (.int .u16 (C i : Nat))
theorem PiecesAt.later {w w' : World} {la : Option Addr} {n : Nat} {A B C : Nat → Nat} (h : PiecesAt w la n A B C) (hg : w.grownBy w' none) : PiecesAt w' la n A B C where
  lt := h.lt
  cells := fun hn => by
    obtain ⟨b, off, h1, h2, h3⟩ := h.cells hn
    refine ⟨b, off, h1, Nat.lt_of_lt_of_le h2 hg.size, fun i hi => ?_⟩
    have hb := hg.block b h2 (by simp)
    obtain ⟨c0, c1, c2⟩ := h3 i hi
    exact ⟨(World.cell?_of_block (w := w) (a := ⟨b, off + i * 3, none⟩) hb).trans c0, (World.cell?_of_block (w := w) (a := ⟨b, off + i * 3 + 1, none⟩) hb).trans c1, (World.cell?_of_block (w := w) (a := ⟨b, off + i * 3 + 2, none⟩) hb).trans c2⟩
theorem PiecesAt.less {w : World} {la : Option Addr} {n m : Nat} {A B C : Nat → Nat} (h : PiecesAt w la n A B C) (hm : m ≤ n) : PiecesAt w la m A B C where
  lt := h.lt
  cells := fun hn => by
    obtain ⟨b, off, h1, h2, h3⟩ := h.cells (by omega)
    exact ⟨b, off, h1, h2, fun i hi => h3 i (by omega)⟩
/-- What holds at the head of Lay's loop. -/
structure LyRel (w : World) (base : Nat) (wv : Value) (k off : Nat) (wr : World) : Prop where
  is : ∃ l n pv, n ≤ k ∧ LayP (fmt48 4480) l off n ∧ off + 48 ≤ 4480 ∧ RTx wr base wv pv (fmt48 4480) l ∧ wr.heap[w.heap.size]? = some (.cells #[wv, pv] 54 (0, 0))
  since : w.grownBy wr none
  res : wr.heap[w.heap.size + 1]? = some (.cells #[.slice none 0 0, .slice none 0 0] 54 (0, 0))
end Go.Proofs.YtoamlkljfmgomaaGreat

/-
  Layer 6's plain answers: the contracts of check and Walk.
  Conditions: the plain Tx stands in memory; there are 131072 words at most.
-/
namespace Go.Proofs.YtoamlkljfmgomaaGreat
open Go.RowKit
set_option linter.unusedVariables false
set_option linter.unusedSimpArgs false

theorem info_rblk : (Tryz.prog.info? 43).map (fun i => (i.zero, i.size, i.bytes)) = some (some (.agg #[.int .u64 0, .int .u64 0, .bool false, .int .i64 0, .int .u64 0]), 5, 40) := by kernel_rfl
/-- 'append(l, b)': a block more. -/
theorem wpList_append_blk {w2 : World} {base k : Nat} {l : List Blk} {v : Value} (hkl : l.length = k) (hown : OwnB w2 base 43 v l) (hn : l.length ≤ 1000000) (hbase : base ≤ w2.heap.size) (b : Blk)
    {ops : Array Oper} {rest : List Oper} {o : Oper} {a : Act} {Q : Exit → Act → World → Prop} (hgd : o.guard = none) (s x : Operand)
    (ho : o.op = .call { callee := .builtin .append, args := #[s, x], argTypes := #[26, 26] })
    (hs : a.eval s = v) {m : Nat} (hx : a.eval x = .slice (some ⟨m, 0, none⟩) 1 1) (hm : m = w2.heap.size)
    (h : ∀ g cp w', OwnB w' base 43 (.slice (some ⟨g, 0, none⟩) (k + 1) cp) (l ++ [b]) → w2.grownBy w' v.ownBlock → (v.ownBlock = some g ∨ g = w2.heap.size + 1) → wpList Tryz.prog ops Q rest (a.put o.dst (.slice (some ⟨g, 0, none⟩) (k + 1) cp)) w') :
    wpList Tryz.prog ops Q (o :: rest) a (w2.alloc (.cells #[.int .u64 (b.off : Nat), .int .u64 (b.s : Nat), .bool b.u, .int .i64 b.o, .int .u64 (b.n : Nat)] 43)) := by
  subst hkl
  subst hm
  obtain ⟨i0, hi, hz0, hz1, hz2⟩ := info_parts info_rblk
  refine wpList_append_own_at _ hgd s x 26 ho base 43 i0 (.agg #[.int .u64 0, .int .u64 0, .bool false, .int .i64 0, .int .u64 0]) 5 40 Tryz.underlying26 hi hz0 hz1 hz2 rfl (by decide) v l.length (cellsB l) hs (World.ownsRow.alloc hown _) ⟨w2.heap.size, 0, none⟩ 1 1 b.row hx rfl (cells_five_new _ _ _ _ _ _ _) (by simp [Value.oneCell', Blk.row]) (by unfold maxLen; omega) (by omega) (by rw [World.size_alloc]; omega) fun v' w' h1 h2 _ h4 => ?_
  obtain ⟨g, cp, rfl⟩ := ownsRow_succ h1
  refine h g cp w' ?_ (grown_trans (World.grownBy_alloc _ _ _) h2) ?_
  · unfold OwnB
    rw [cellsB_snoc, List.length_append]
    exact h1
  · rw [World.size_alloc] at h4
    rcases h4 with h4 | h4
    · exact .inl h4.symm
    · right; injection h4
section
variable {w : World} {base : Nat} {wv pv : Value} {ws : List Nat} {l : List (Nat × Nat)}
theorem chk6_apply (hok : TxOk ws l) : chkN (txApply ws l) [] = chkN ws l := by
  have e : chkP (txApply ws l) [] ↔ chkP ws l := by
    unfold chkP
    rw [see_nil, see_nil, see_nil, see_nil, apply_get hok, apply_get hok, apply_get hok, apply_get hok, txApply_len]
  unfold chkN
  by_cases hc : chkP ws l
  · rw [if_pos hc, if_pos (e.2 hc)]
  · rw [if_neg hc, if_neg (fun hh => hc (e.1 hh))]
theorem txApply_lt {ws : List Nat} {l : List (Nat × Nat)} (hw : ∀ x ∈ ws, x < 18446744073709551616) (hl : ∀ p ∈ l, p.2 < 18446744073709551616) : ∀ x ∈ txApply ws l, x < 18446744073709551616 := by
  induction l generalizing ws with
  | nil => exact hw
  | cons p r ih =>
    show ∀ x ∈ txApply (put ws p.1 p.2) r, x < 18446744073709551616
    exact ih (put_lt hw (hl p List.mem_cons_self)) (fun q hq => hl q (List.mem_cons_of_mem _ hq))
theorem walks_bad {f : Nat → Nat} {N k : Nat} {ok : Bool} (hw : Walks f N ok) (hk : k ≤ N) (h : offs f k < f 16) (hb : ¬ bkP f (offs f k)) : ok = false := by
  rcases Nat.lt_or_ge k N with h3 | h3
  · exact absurd (hw.lt k h3).2 hb
  · obtain rfl : k = N := by omega
    cases ok
    · rfl
    · have h4 := hw.fin
      rw [if_pos rfl] at h4
      omega
theorem walks_end {f : Nat → Nat} {N k : Nat} {ok : Bool} (hw : Walks f N ok) (hk : k ≤ N) (h : ¬ offs f k < f 16) : k = N ∧ ok = true := by
  rcases Nat.lt_or_ge k N with h3 | h3
  · exact absurd (hw.lt k h3).1 h
  · obtain rfl : k = N := by omega
    cases ok
    · have h4 := hw.fin
      rw [if_neg (by simp)] at h4
      exact absurd h4.1 h
    · exact ⟨rfl, rfl⟩
/-- What holds at the head of Walk's loop: k blocks are told. -/
structure RwRel (w : World) (wv pv : Value) (f : Nat → Nat) (k : Nat) (v : Value) (wr : World) : Prop where
  since : w.grownBy wr none
  box : wr.heap[w.heap.size]? = some (.cells #[wv, pv] 54 (0, 0))
  row : OwnB wr (w.heap.size + 1) 43 v (blks f k)
theorem RwRel.next {w wr w4 w6 : World} {wv pv : Value} {f : Nat → Nat} {k : Nat} {v v' : Value} {b : Blk} (hs : w.grownBy wr none) (hb : wr.heap[w.heap.size]? = some (.cells #[wv, pv] 54 (0, 0))) (hbs : blks f (k + 1) = blks f k ++ [b])
    (hg4 : wr.grownBy w4 none) (hg6 : w4.grownBy w6 v.ownBlock) (ho : ∀ i, v.ownBlock = some i → w.heap.size + 1 ≤ i ∧ i < wr.heap.size) (hr : OwnB w6 (w.heap.size + 1) 43 v' (blks f k ++ [b])) : RwRel w wv pv f (k + 1) v' w6 := by
  refine ⟨grown_step (grown_trans hs hg4) hg6 (fun i hi => .inl (by have := (ho i hi).1; omega)), ?_, by rw [hbs]; exact hr⟩
  have h4 := (hg4.block _ (lt_of_block hb) (by simp)).trans hb
  exact (hg6.block _ (lt_of_block h4) (fun e => by have := (ho _ e.symm).1; omega)).trans h4
end
end Go.Proofs.YtoamlkljfmgomaaGreat

/-
  What most statements of layer 6 begin with: a formatted segment of 4480 bytes, in which blocks are laid, and then other words (laid).
  Conditions: the pieces and the pairs lie in memory.
-/
namespace Go.Proofs.YtoamlkljfmgomaaGreat
open Go.RowKit
set_option linter.unusedVariables false
set_option linter.unusedSimpArgs false

/-- words that are thought of, and k pairs more -/
def thinkF (ws : List Nat) (l : List (Nat × Nat)) (X V : Nat → Nat) : Nat → List (Nat × Nat)
  | 0 => l
  | k + 1 => txStore ws (thinkF ws l X V k) (X k) (V k)
theorem thinkF_ok {ws : List Nat} {l : List (Nat × Nat)} {X V : Nat → Nat} (h : TxOk ws l) (hV : ∀ i, V i < 18446744073709551616) : ∀ k, TxOk ws (thinkF ws l X V k) := by
  intro k
  induction k with
  | zero => exact h
  | succ k ih => exact ih.store _ (hV k)
theorem store_take {ws : List Nat} {l : List (Nat × Nat)} (h : TxOk ws l) {k : Nat} (hk : k < l.length) : txStore ws (l.take k) (txX l k) (txV l k) = l.take (k + 1) := by
  have hp : (txX l k, txV l k) = l[k] := by
    unfold txX txV
    rw [List.getD_eq_getElem?_getD, List.getElem?_eq_getElem hk]
    rfl
  have hmem : (txX l k, txV l k) ∈ l := by rw [hp]; exact List.getElem_mem hk
  have hs : stands ws (txX l k) := h.stand _ hmem
  have hn : txGet (l.take k) (txX l k) = none := by
    rw [txGet_none]
    intro hx
    unfold txKeys at hx
    rw [List.mem_map] at hx
    obtain ⟨p, hp1, hp2⟩ := hx
    obtain ⟨j, hj, hje⟩ := List.mem_iff_getElem.1 hp1
    have hjk : j < k := by simp at hj; omega
    rw [List.getElem_take] at hje
    refine h.apart hk hjk ?_
    rw [← hp2, ← hje]
    unfold txX
    rw [List.getD_eq_getElem?_getD, List.getElem?_eq_getElem (by omega)]
    rfl
  unfold txStore
  rw [if_pos hs, txSet_new _ hn, hp, List.take_succ_eq_append_getElem hk]
section
variable {w wr : World} {T M B D bx b6 : Nat} {wv : Value} {ws : List Nat} {l l' : List (Nat × Nat)}
/-- the plain answer's words are others -/
theorem ThMid.told {w4 : World} {pv' : Value} {l2 : List (Nat × Nat)} (h : ThMid w T M B D bx b6 wv ws l l' wr) (hg : wr.grownBy w4 none) (hr : RTx w4 w.heap.size wv pv' ws l2) (hbx : w.heap.size ≤ bx) (hne : bx ≠ b6) :
    ThMid w T M B D bx b6 wv ws l2 l' ((w4.setCell ⟨bx, 0, none⟩ wv).setCell ⟨bx, 1, none⟩ pv') := by
  obtain ⟨R, h1, h2⟩ := h.tx
  obtain ⟨pv, h3, _⟩ := h.box
  have h3' := (hg.block _ (lt_of_block h3) (by simp)).trans h3
  have hs : w4.grownBy ((w4.setCell ⟨bx, 0, none⟩ wv).setCell ⟨bx, 1, none⟩ pv') (some bx) := grown_trans (grown_set _ _ _ _) (grown_set _ _ _ _)
  refine ⟨⟨R, (h1.later hg).other h3' hbx hs, h2⟩, ⟨pv', ?_, hr.other h3' hs⟩, ?_⟩
  · rw [heap_setCell_same (heap_setCell_same h3' wv) pv']; rfl
  · have := (hg.block _ (lt_of_block h.res) (by simp)).trans h.res
    exact (hs.block _ (lt_of_block this) (by simpa using hne.symm)).trans this
/-- the program's Tx has a word more -/
theorem ThMid.more (h : ThMid w T M B D bx b6 wv ws l l' wr) (off v : Nat) (ho : off < 18446744073709551616) (hv : v < 18446744073709551616) :
    Calls Tryz.prog 17 #[.pointer (some ⟨T, 0, none⟩), .int .u64 off, .int .u64 v] wr fun e w' => e = .returned (.tuple #[]) ∧ ThMid w T M B D bx b6 wv ws l (txStore ws l' off v) w' := by
  obtain ⟨R, h1, h2⟩ := h.tx
  refine (txstore_any h1.tx off v ho hv).mono ?_
  rintro e w' ⟨rfl, ht⟩
  obtain ⟨R', k1, k2, k3⟩ := h1.step ht
  obtain ⟨pv, h3, h4⟩ := h.box
  refine ⟨rfl, ⟨R', k1, fun g hg => ?_⟩, ⟨pv, k2.heap h3 (h1.tx.far h3 (by decide) (by decide)), ⟨OwnW.past h1.tx k2 h4.words h2, OwnP.past h1.tx k2 h4.puts⟩⟩, k2.heap h.res (h1.tx.far h.res (by decide) (by decide))⟩
  rcases k3 with rfl | ⟨g', rfl, hg'⟩
  · exact h2 g hg
  · intro e
    injection e with e
    obtain ⟨_, cur, hb⟩ := row_block h4.words hg
    have := lt_of_block hb
    omega
end
theorem Txs.from {w W0 w1 : World} {T M : Nat} {R : Option Nat} {B D : Nat} {ws : List Nat} {l : List (Nat × Nat)} (hg : w.grownBy W0 none) (h : Txs W0 w1 T M R B D ws l) : Txs w w1 T M R B D ws l where
  tx := h.tx
  since := grown_trans hg h.since
  newT := Nat.le_trans hg.size h.newT
  newM := Nat.le_trans hg.size h.newM
  newR := fun g e => Nat.le_trans hg.size (h.newR g e)
  newB := Nat.le_trans hg.size h.newB
  newD := Nat.le_trans hg.size h.newD
theorem RTx.mono {w : World} {base base' : Nat} {wv pv : Value} {ws : List Nat} {l : List (Nat × Nat)} (h : RTx w base wv pv ws l) (hb : base' ≤ base) : RTx w base' wv pv ws l := ⟨h.words.mono hb, World.ownsRow.mono h.puts hb⟩
/-- What laid tells: L is what the plain answer has thought of. -/
def Laid0 (w : World) (X V : Nat → Nat) (m : Nat) (e : Ending) (w' : World) : Prop :=
  ∃ l N, Laid6 l N ∧ Formed w (fmt48 4480) (thinkF (fmt48 4480) l X V m) e w'
end Go.Proofs.YtoamlkljfmgomaaGreat

/-
  Arguments that are lists of pieces, and lists of plain blocks, opened.
  No condition.
-/
namespace Go.Proofs.YtoamlkljfmgomaaGreat
open Go.ChangeShapes Go.WideShapes Go.ChangeAt Go.RowKit Go.Deep
set_option linter.unusedVariables false
set_option linter.unusedSimpArgs false

theorem cells_u8 : Tryz.prog.cellsOf 5 = 1 := by kernel_rfl
theorem cells_u16 : Tryz.prog.cellsOf 60 = 1 := by kernel_rfl
theorem cells_rblk : Tryz.prog.cellsOf 43 = 5 := by kernel_rfl
theorem cells_bool : Tryz.prog.cellsOf 4 = 1 := by kernel_rfl
theorem cells_int : Tryz.prog.cellsOf 3 = 1 := by kernel_rfl
section
variable {H : Type} {enc : TypeId × Value → H} {w : World}
set_option maxRecDepth 100000 in
theorem block_fields {n : Nat} {cs : List Value} {x : DataW H × List MemPlace} (h : DataW.trod enc Tryz.prog w 0 (fun _ => true) true n 43 cs = some x) :
    ∃ b : Blk, cs = b.row ∧ b.off < 18446744073709551616 := by
  obtain ⟨xs, k, _, _, hcl, hxl, hf⟩ := DataW.trod_struct Tryz.underlying43 h
  rw [cells_rblk] at hcl
  match xs, hxl, cs, hcl with
  | [y0, y1, y2], _, [v0, v1, v2, v3, v4], _ =>
    have g0 := hf 0 _ rfl
    have g1 := hf 1 _ rfl
    have g2 := hf 2 _ rfl
    simp [cells_u64, cells_rtag] at g0 g1 g2
    obtain ⟨zs, k', _, _, hcl', hzl, hg⟩ := DataW.trod_struct Tryz.underlying41 g1
    match zs, hzl with
    | [z0, z1, z2], _ =>
      have t0 := hg 0 _ rfl
      have t1 := hg 1 _ rfl
      have t2 := hg 2 _ rfl
      simp [cells_u64, cells_bool, cells_int] at t0 t1 t2
      obtain ⟨k0, e0, _, w0⟩ := DataW.trod_int Tryz.underlying23 g0
      obtain ⟨k1, e1, _, w1⟩ := DataW.trod_int Tryz.underlying23 t0
      obtain ⟨k2, e2, _⟩ := DataW.trod_bool Tryz.underlying4 t1
      obtain ⟨k3, e3, _, w3⟩ := DataW.trod_int Tryz.underlying3 t2
      obtain ⟨k4, e4, _, w4⟩ := DataW.trod_int Tryz.underlying23 g2
      simp only [List.cons.injEq, and_true] at e0 e1 e2 e3 e4
      have b0 := bounds_u64 w0
      have b1 := bounds_u64 w1
      have b4 := bounds_u64 w4
      obtain ⟨x, rfl⟩ := Int.eq_ofNat_of_zero_le b0.1
      obtain ⟨y, rfl⟩ := Int.eq_ofNat_of_zero_le b1.1
      obtain ⟨z, rfl⟩ := Int.eq_ofNat_of_zero_le b4.1
      exact ⟨⟨x, y, k2, k3, z⟩, by rw [e0, e1, e2, e3, e4]; rfl, by show x < _; omega⟩
theorem plain_spot {a : Addr} {v : Value} (h : w.cell? (a.add 0) = some v) : ∃ b off, a = ⟨b, off, none⟩ ∧ b < w.heap.size := by
  obtain ⟨b, off, spot⟩ := a
  have ho : (⟨b, off, spot⟩ : Addr).add 0 = ⟨b, off, spot⟩ := rfl
  rw [ho] at h
  have hb : b < w.heap.size := by
    rcases Nat.lt_or_ge b w.heap.size with h' | h'
    · exact h'
    · simp [World.cell?, Array.getElem?_eq_none h'] at h
  rcases spot with _ | s
  · exact ⟨b, off, rfl, hb⟩
  · exfalso
    unfold World.cell? at h
    simp only at h
    split at h <;> simp at h
set_option maxRecDepth 100000 in
theorem open_blks {r : Reach} {b0 : Nat} {v : Value} {d : DataW H} {p : List MemPlace} (hv : Value.okWide Tryz.prog w r b0 26 v) (h : DataW.Trod enc Tryz.prog w 0 (fun _ => true) true 26 v d p) :
    ∃ la c, ∃ l : List Blk, v = .slice la l.length c ∧ l.length ≤ maxLen ∧ BlksAt w la l := by
  obtain ⟨a0, l0, c0, rfl⟩ := okWide_slice Tryz.underlying26 hv
  obtain ⟨fuel, hf⟩ := h
  rcases open_slice Tryz.underlying26 hf with ⟨h0, _⟩ | ⟨a, len, cap, m, n, D, Pl, hcs, _, hl, hm, hmeq, hx, hall⟩
  · simp [Value.cells] at h0
    obtain ⟨rfl, rfl, rfl⟩ := h0
    exact ⟨none, 0, [], rfl, Nat.zero_le _, ⟨fun h => by simp at h⟩⟩
  · simp [Value.cells] at hcs
    obtain ⟨rfl, rfl, rfl⟩ := hcs
    simp only [if_true] at hmeq
    subst hmeq
    have key : ∀ i, i < l0 → ∃ b : Blk, ∀ j u, j < 5 → b.row[j]? = some u → w.cell? (a.add (i * 5 + j)) = some u := by
      intro i hi
      obtain ⟨cs, h1, h2⟩ := hall i (by omega)
      rw [cells_rblk] at h1
      obtain ⟨_, hlen, hcell⟩ := World.cells?_some h1
      obtain ⟨b, rfl, hb⟩ := block_fields h2
      refine ⟨b, fun j u hj hu => ?_⟩
      have e := hcell j hj
      rw [add_add] at e
      rw [e]
      exact hu
    obtain ⟨q, hq⟩ := choose_lt (α := Blk) key
    have hget : ∀ k, k < l0 → ((List.range l0).map q).getD k default = q k := fun k hk => by
      rw [List.getD_eq_getElem?_getD, List.getElem?_map, List.getElem?_range hk]
      rfl
    refine ⟨some a, m, (List.range l0).map q, by simp, by rw [List.length_map, List.length_range]; omega, ⟨fun hn => ?_⟩⟩
    rw [List.length_map, List.length_range] at hn ⊢
    obtain ⟨b, off, rfl, hb⟩ := plain_spot (hq 0 hn 0 _ (by decide) rfl)
    have hadd : ∀ j, (⟨b, off, none⟩ : Addr).add j = ⟨b, off + j, none⟩ := fun j => by unfold Addr.add; split <;> simp_all
    refine ⟨b, off, rfl, hb, fun k hk => ?_⟩
    have h0 := hq k hk 0 _ (by decide) rfl
    have h1 := hq k hk 1 _ (by decide) rfl
    have h2 := hq k hk 2 _ (by decide) rfl
    have h3 := hq k hk 3 _ (by decide) rfl
    have h4 := hq k hk 4 _ (by decide) rfl
    rw [hadd] at h0 h1 h2 h3 h4
    unfold gO gS gU gW gN
    rw [hget k hk]
    exact ⟨h0, by rw [Nat.add_assoc]; exact h1, by rw [Nat.add_assoc]; exact h2, by rw [Nat.add_assoc]; exact h3, by rw [Nat.add_assoc]; exact h4⟩
end
end Go.Proofs.YtoamlkljfmgomaaGreat
