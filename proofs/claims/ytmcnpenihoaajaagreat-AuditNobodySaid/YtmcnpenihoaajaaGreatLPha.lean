/-
  Texts of one layer, one behind the other: memory, contracts of the functions, and what follows of them.
  Conditions: as each theorem says.
-/
import Derived.Test.YtmcnpenihoaajaaGreatLTaa
import Derived.Test.YtmcnpenihoaajaaGreatLWoa
import Derived.Test.YtmcnpenihoaajaaGreatLTxa
set_option linter.unusedVariables false
set_option linter.unusedSimpArgs false
namespace Go.Proofs.YtmcnpenihoaajaaGreat
open Go.RowKit
structure Blk where
  off : Nat
  s : Nat
  u : Bool
  o : Int
  n : Nat
deriving DecidableEq
instance : Inhabited Blk := ⟨⟨0, 0, false, 0, 0⟩⟩
def Blk.row (b : Blk) : List Value := [.int .u64 (b.off : Nat), .int .u64 (b.s : Nat), .bool b.u, .int .i64 b.o, .int .u64 (b.n : Nat)]
def Blk.none : Blk := ⟨0, 0, false, 0, 0⟩
def bkP (f : Nat → Nat) (off : Nat) : Prop := rdP f off ∧ (uus (f off) = true → f (off + 8) + 40 ≤ usz (f off))
instance (f : Nat → Nat) (off : Nat) : Decidable (bkP f off) := by unfold bkP; infer_instance
def bkL (f : Nat → Nat) (off : Nat) : Nat := if uus (f off) = true then f (off + 8) else 0
def bkAt (f : Nat → Nat) (off : Nat) : Blk := ⟨off, usz (f off), uus (f off), uow (f off), bkL f off⟩
def bkR (f : Nat → Nat) (off : Nat) : Blk := if bkP f off then bkAt f off else Blk.none
def bkE (f : Nat → Nat) (off : Nat) : Nat := if bkP f off then 0 else 12
theorem bk_yes {f : Nat → Nat} {off : Nat} (h : bkP f off) : bkR f off = bkAt f off ∧ bkE f off = 0 := ⟨if_pos h, if_pos h⟩
theorem bk_no {f : Nat → Nat} {off : Nat} (h : ¬ bkP f off) : bkR f off = Blk.none ∧ bkE f off = 12 := ⟨if_neg h, if_neg h⟩
theorem need_leq {n s : Nat} (h : s % 16 = 0) (h48 : 48 ≤ s) : needOf n ≤ s ↔ n + 40 ≤ s := by
  unfold needOf
  split <;> omega
section
variable {w w' : World} {b : Nat} {x y z p q x' y' z' p' q' : Value} {t : TypeId}
theorem five_cells (h : w.heap[b]? = some (.cells #[x, y, z, p, q] t (0, 0))) : w.cell? ⟨b, 0, none⟩ = some x ∧ w.cell? ⟨b, 1, none⟩ = some y ∧ w.cell? ⟨b, 2, none⟩ = some z ∧ w.cell? ⟨b, 3, none⟩ = some p ∧ w.cell? ⟨b, 4, none⟩ = some q :=
  ⟨by simp [World.cell?, h], by simp [World.cell?, h], by simp [World.cell?, h], by simp [World.cell?, h], by simp [World.cell?, h]⟩
theorem five_frozen (h : w.heap[b]? = some (.cells #[x, y, z, p, q] t (0, 0))) : w.frozen? ⟨b, 0, none⟩ = false ∧ w.frozen? ⟨b, 1, none⟩ = false ∧ w.frozen? ⟨b, 2, none⟩ = false ∧ w.frozen? ⟨b, 3, none⟩ = false ∧ w.frozen? ⟨b, 4, none⟩ = false :=
  ⟨by simp [World.frozen?, h], by simp [World.frozen?, h], by simp [World.frozen?, h], by simp [World.frozen?, h], by simp [World.frozen?, h]⟩
theorem five_first (hg : (w.alloc (.cells #[x, y, z, p, q] t)).grownBy w' none) : w'.heap[w.heap.size]? = some (.cells #[x, y, z, p, q] t (0, 0)) := by
  have h1 : (w.alloc (.cells #[x, y, z, p, q] t)).heap[w.heap.size]? = some (.cells #[x, y, z, p, q] t (0, 0)) := heap_alloc_new' _ _
  exact (hg.block _ (lt_of_block h1) (by simp)).trans h1
theorem five_put (h : w.heap[b]? = some (.cells #[x, y, z, p, q] t (0, 0))) : (((((w.setCell ⟨b, 0, none⟩ x').setCell ⟨b, 1, none⟩ y').setCell ⟨b, 2, none⟩ z').setCell ⟨b, 3, none⟩ p').setCell ⟨b, 4, none⟩ q').heap[b]? = some (.cells #[x', y', z', p', q'] t (0, 0)) := by
  rw [heap_setCell_same (heap_setCell_same (heap_setCell_same (heap_setCell_same (heap_setCell_same h x') y') z') p') q']; rfl
theorem five_grown {w0 : World} (h : w0.grownBy w none) (hb : w0.heap.size ≤ b) : w0.grownBy (((((w.setCell ⟨b, 0, none⟩ x').setCell ⟨b, 1, none⟩ y').setCell ⟨b, 2, none⟩ z').setCell ⟨b, 3, none⟩ p').setCell ⟨b, 4, none⟩ q') none :=
  grown_new (grown_trans (grown_any h _) (grown_trans (grown_set _ _ _ _) (grown_trans (grown_set _ _ _ _) (grown_trans (grown_set _ _ _ _) (grown_trans (grown_set _ _ _ _) (grown_set _ _ _ _)))))) hb
end
section
variable {w : World} {T M : Nat} {R : Option Nat} {B D : Nat} {ws : List Nat} {l : List (Nat × Nat)}
set_option maxHeartbeats 4000000 in
theorem pread_any (h : Thinks w T M R B D ws l) (off : Nat) (ho : off < 18446744073709551616) :
    Calls Tryz.prog 120 #[.pointer (some ⟨T, 0, none⟩), .int .u64 off] w fun e w' => e = .returned (.tuple #[.agg (bkR (txSee ws l) off).row.toArray, .int .i64 (bkE (txSee ws l) off : Nat)]) ∧ w.grownBy w' none := by
  have hrd := fun (w1 : World) (hg : w.grownBy w1 none) => tread_any (h.later hg) off ho
  have hlt := txSee_lt h.seg.words h.ok
  have hg0 : w.grownBy (w.alloc (.cells #[.int .u64 0, .int .u64 0, .bool false, .int .i64 0, .int .u64 0] 128)) none := World.grownBy_alloc _ _ _
  by_cases hr : rdP (txSee ws l) off
  · obtain ⟨r1, r2, r3, r4⟩ := rd_yes hr
    rw [r1, r2, r3, r4] at hrd
    have hb48 := mayW_size hr.1
    obtain ⟨s, es⟩ : ∃ s, usz (txSee ws l off) = s := ⟨_, rfl⟩
    obtain ⟨o, eo⟩ : ∃ o, uow (txSee ws l off) = o := ⟨_, rfl⟩
    by_cases hu : uus (txSee ws l off) = true
    · have hin := hr.2.1
      have h16 := hlt 16
      obtain ⟨b, hb⟩ : ∃ b, off + 8 = b := ⟨_, rfl⟩
      have hb64 : b < 18446744073709551616 := by unfold inP at hin; omega
      have e8 : IntKind.u64.wrap ((off : Int) + 8) = (b : Nat) := by rw [IntKind.wrap_u64]; omega
      have hload := fun (w1 : World) (hg : w.grownBy w1 none) => txload_any (h.later hg) b hb64
      have hn64 := hlt b
      obtain ⟨n, en⟩ : ∃ n, txSee ws l b = n := ⟨_, rfl⟩
      rw [en] at hload hn64
      rw [es] at hb48 hrd
      rw [eo] at hrd
      rw [hu] at hrd
      have hbk : bkP (txSee ws l) off ↔ n + 40 ≤ s := by
        unfold bkP
        rw [hb, en, es]
        exact ⟨fun h => h.2 hu, fun h => ⟨hr, fun _ => h⟩⟩
      by_cases hfit : n + 40 ≤ s
      · have hneed := fun w => need_fits n (by omega) w
        have hle : ¬ (s : Int) < (needOf n : Nat) := by have := (need_leq hb48.2.2.1 hb48.1).2 hfit; omega
        rw [(bk_yes (hbk.2 hfit)).1, (bk_yes (hbk.2 hfit)).2]
        unfold bkAt bkL
        rw [if_pos hu, hu, hb, en, es, eo]
        obtain ⟨m, em⟩ : ∃ m, needOf n = m := ⟨_, rfl⟩
        rw [em] at hle
        simp only [em] at hneed
        clear r1 r2 r3 r4 hr hlt hbk hfit em en hu es eo hin h16 hb hb48 hn64
        go_enter Tryz.func120, Tryz.ntmps120
        go_wp2_with (first | (go_at_call 160; ((with_reducible refine (hrd _ hg0).mono ?_); rintro e w1 ⟨rfl, hg1⟩; have hga := World.grownBy_alloc w1 (.cells #[.int .u64 s, .bool true, .int .i64 o] 126) none; have G1 := grown_trans hg0 (grown_trans hg1 hga); obtain ⟨x0, x1, x2⟩ := tag_cells (tag_first (grown_refl (w1.alloc (.cells #[.int .u64 s, .bool true, .int .i64 o] 126)) none)))) | (go_at_call 66; ((with_reducible refine (hload _ G1).mono ?_); rintro e w2 ⟨rfl, hg2⟩)) | (go_at_call 161; ((with_reducible refine (hneed _).mono ?_); rintro e w3 ⟨rfl, rfl⟩; obtain ⟨x0, x1, x2⟩ := tag_cells (tag_first hg2); have HB := Lib.hid (five_first (grown_trans hg1 (grown_trans hga hg2))); obtain ⟨d0, d1, d2, d3, d4⟩ := five_cells HB.out; obtain ⟨f0, f1, f2, f3, f4⟩ := five_frozen HB.out)))
        have hb := five_put HB.out (x' := .int .u64 off) (y' := .int .u64 s) (z' := .bool true) (p' := .int .i64 o) (q' := .int .u64 n)
        obtain ⟨k0, k1, k2, k3, k4⟩ := five_cells hb
        refine bodyPost_ret (v := .tuple #[.agg #[.int .u64 off, .int .u64 s, .bool true, .int .i64 o, .int .u64 n], .int .i64 0]) (by simp [results, Tryz.results120, go_sem, k0, k1, k2, k3, k4]) rfl ?_
        exact ⟨rfl, five_grown (grown_trans G1 hg2) (by omega)⟩
      · rw [(bk_no (fun h => hfit (hbk.1 h))).1, (bk_no (fun h => hfit (hbk.1 h))).2]
        by_cases hbig : n + 55 < 18446744073709551616
        · have hneed := fun w => need_fits n hbig w
          have hle : (s : Int) < (needOf n : Nat) := by have := mt (need_leq (n := n) hb48.2.2.1 hb48.1).1 hfit; omega
          obtain ⟨m, em⟩ : ∃ m, needOf n = m := ⟨_, rfl⟩
          rw [em] at hle
          simp only [em] at hneed
          clear r1 r2 r3 r4 hr hlt hbk hfit em en hu es eo hin h16 hb hb48 hn64 hbig
          go_enter Tryz.func120, Tryz.ntmps120
          go_wp2_with (first | (go_at_call 160; ((with_reducible refine (hrd _ hg0).mono ?_); rintro e w1 ⟨rfl, hg1⟩; have hga := World.grownBy_alloc w1 (.cells #[.int .u64 s, .bool true, .int .i64 o] 126) none; have G1 := grown_trans hg0 (grown_trans hg1 hga); obtain ⟨x0, x1, x2⟩ := tag_cells (tag_first (grown_refl (w1.alloc (.cells #[.int .u64 s, .bool true, .int .i64 o] 126)) none)))) | (go_at_call 66; ((with_reducible refine (hload _ G1).mono ?_); rintro e w2 ⟨rfl, hg2⟩)) | (go_at_call 161; ((with_reducible refine (hneed _).mono ?_); rintro e w3 ⟨rfl, rfl⟩; obtain ⟨x0, x1, x2⟩ := tag_cells (tag_first hg2); have HB := Lib.hid (five_first (grown_trans hg1 (grown_trans hga hg2))); obtain ⟨d0, d1, d2, d3, d4⟩ := five_cells HB.out; obtain ⟨f0, f1, f2, f3, f4⟩ := five_frozen HB.out)))
          have hb := five_put HB.out (x' := .int .u64 0) (y' := .int .u64 0) (z' := .bool false) (p' := .int .i64 0) (q' := .int .u64 0)
          obtain ⟨k0, k1, k2, k3, k4⟩ := five_cells hb
          refine bodyPost_ret (v := .tuple #[.agg #[.int .u64 0, .int .u64 0, .bool false, .int .i64 0, .int .u64 0], .int .i64 12]) (by simp [results, Tryz.results120, go_sem, k0, k1, k2, k3, k4]) rfl ?_
          exact ⟨rfl, five_grown (grown_trans G1 hg2) (by omega)⟩
        · have hneed := fun w => need_high n hn64 (by omega) w
          clear r1 r2 r3 r4 hr hlt hbk hfit en hu es eo hin h16 hb hb48 hn64 hbig
          go_enter Tryz.func120, Tryz.ntmps120
          go_wp2_with (first | (go_at_call 160; ((with_reducible refine (hrd _ hg0).mono ?_); rintro e w1 ⟨rfl, hg1⟩; have hga := World.grownBy_alloc w1 (.cells #[.int .u64 s, .bool true, .int .i64 o] 126) none; have G1 := grown_trans hg0 (grown_trans hg1 hga); obtain ⟨x0, x1, x2⟩ := tag_cells (tag_first (grown_refl (w1.alloc (.cells #[.int .u64 s, .bool true, .int .i64 o] 126)) none)))) | (go_at_call 66; ((with_reducible refine (hload _ G1).mono ?_); rintro e w2 ⟨rfl, hg2⟩)) | (go_at_call 161; ((with_reducible refine (hneed _).mono ?_); rintro e w3 ⟨rfl, rfl⟩; obtain ⟨x0, x1, x2⟩ := tag_cells (tag_first hg2); have HB := Lib.hid (five_first (grown_trans hg1 (grown_trans hga hg2))); obtain ⟨d0, d1, d2, d3, d4⟩ := five_cells HB.out; obtain ⟨f0, f1, f2, f3, f4⟩ := five_frozen HB.out)))
          have hb := five_put HB.out (x' := .int .u64 0) (y' := .int .u64 0) (z' := .bool false) (p' := .int .i64 0) (q' := .int .u64 0)
          obtain ⟨k0, k1, k2, k3, k4⟩ := five_cells hb
          refine bodyPost_ret (v := .tuple #[.agg #[.int .u64 0, .int .u64 0, .bool false, .int .i64 0, .int .u64 0], .int .i64 12]) (by simp [results, Tryz.results120, go_sem, k0, k1, k2, k3, k4]) rfl ?_
          exact ⟨rfl, five_grown (grown_trans G1 hg2) (by omega)⟩
    · have hb : bkP (txSee ws l) off := ⟨hr, fun h => absurd h hu⟩
      rw [(bk_yes hb).1, (bk_yes hb).2]
      unfold bkAt bkL
      rw [if_neg hu]
      simp only [Bool.not_eq_true] at hu
      rw [hu] at hrd ⊢
      rw [es, eo] at hrd ⊢
      clear r1 r2 r3 r4 hb hr hlt hb48 es eo hu
      go_enter Tryz.func120, Tryz.ntmps120
      go_wp2_with (first | (go_at_call 160; ((with_reducible refine (hrd _ hg0).mono ?_); rintro e w1 ⟨rfl, hg1⟩; have hga := World.grownBy_alloc w1 (.cells #[.int .u64 s, .bool false, .int .i64 o] 126) none; have G1 := grown_trans hg0 (grown_trans hg1 hga); obtain ⟨x0, x1, x2⟩ := tag_cells (tag_first (grown_refl (w1.alloc (.cells #[.int .u64 s, .bool false, .int .i64 o] 126)) none)); have HB := Lib.hid (five_first (grown_trans hg1 hga)); obtain ⟨d0, d1, d2, d3, d4⟩ := five_cells HB.out; obtain ⟨f0, f1, f2, f3, f4⟩ := five_frozen HB.out)))
      have hb := five_put HB.out (x' := .int .u64 off) (y' := .int .u64 s) (z' := .bool false) (p' := .int .i64 o) (q' := .int .u64 0)
      obtain ⟨k0, k1, k2, k3, k4⟩ := five_cells hb
      refine bodyPost_ret (v := .tuple #[.agg #[.int .u64 off, .int .u64 s, .bool false, .int .i64 o, .int .u64 0], .int .i64 0]) (by simp [results, Tryz.results120, go_sem, k0, k1, k2, k3, k4]) rfl ?_
      exact ⟨rfl, five_grown G1 (by omega)⟩
  · obtain ⟨r1, r2, r3, r4⟩ := rd_no hr
    rw [r1, r2, r3, r4] at hrd
    have hb : ¬ bkP (txSee ws l) off := fun h => hr h.1
    rw [(bk_no hb).1, (bk_no hb).2]
    clear r1 r2 r3 r4 hb hr hlt
    go_enter Tryz.func120, Tryz.ntmps120
    go_wp2_with (first | (go_at_call 160; ((with_reducible refine (hrd _ hg0).mono ?_); rintro e w1 ⟨rfl, hg1⟩; have hga := World.grownBy_alloc w1 (.cells #[.int .u64 0, .bool false, .int .i64 0] 126) none; have G1 := grown_trans hg0 (grown_trans hg1 hga); obtain ⟨x0, x1, x2⟩ := tag_cells (tag_first (grown_refl (w1.alloc (.cells #[.int .u64 0, .bool false, .int .i64 0] 126)) none)); have HB := Lib.hid (five_first (grown_trans hg1 hga)); obtain ⟨d0, d1, d2, d3, d4⟩ := five_cells HB.out; obtain ⟨f0, f1, f2, f3, f4⟩ := five_frozen HB.out)))
    have hb := five_put HB.out (x' := .int .u64 0) (y' := .int .u64 0) (z' := .bool false) (p' := .int .i64 0) (q' := .int .u64 0)
    obtain ⟨k0, k1, k2, k3, k4⟩ := five_cells hb
    refine bodyPost_ret (v := .tuple #[.agg #[.int .u64 0, .int .u64 0, .bool false, .int .i64 0, .int .u64 0], .int .i64 12]) (by simp [results, Tryz.results120, go_sem, k0, k1, k2, k3, k4]) rfl ?_
    exact ⟨rfl, five_grown G1 (by omega)⟩
end
end Go.Proofs.YtmcnpenihoaajaaGreat
namespace Go.Proofs.YtmcnpenihoaajaaGreat
open Go.RowKit
def offs (f : Nat → Nat) : Nat → Nat
  | 0 => 3776
  | k + 1 => offs f k + usz (f (offs f k))
structure Walks (f : Nat → Nat) (N : Nat) (ok : Bool) : Prop where
  lt : ∀ k, k < N → offs f k < f 16 ∧ bkP f (offs f k)
  fin : if ok then f 16 ≤ offs f N else offs f N < f 16 ∧ ¬ bkP f (offs f N)
theorem bk_ge {f : Nat → Nat} {off : Nat} (h : bkP f off) : 48 ≤ usz (f off) ∧ off + usz (f off) ≤ f 16 ∧ off < f 16 ∧ 3776 ≤ off ∧ off % 16 = 0 := by
  have h1 := mayW_size h.1.1
  have h2 := h.1.2.1
  unfold inP at h2
  omega
theorem walks_from (f : Nat → Nat) : ∀ (m k : Nat), f 16 - offs f k ≤ m → (∀ j, j < k → offs f j < f 16 ∧ bkP f (offs f j)) → ∃ N ok, Walks f N ok := by
  intro m
  induction m with
  | zero =>
    intro k h hk
    exact ⟨k, true, hk, by rw [if_pos rfl]; omega⟩
  | succ m ih =>
    intro k h hk
    by_cases h1 : offs f k < f 16
    · by_cases h2 : bkP f (offs f k)
      · refine ih (k + 1) ?_ (fun j hj => ?_)
        · have := (bk_ge h2).1
          show f 16 - (offs f k + usz (f (offs f k))) ≤ m
          omega
        · rcases Nat.lt_succ_iff_lt_or_eq.1 hj with h3 | rfl
          · exact hk j h3
          · exact ⟨h1, h2⟩
      · exact ⟨k, false, hk, by rw [if_neg (by simp)]; exact ⟨h1, h2⟩⟩
    · exact ⟨k, true, hk, by rw [if_pos rfl]; omega⟩
theorem walks_some (f : Nat → Nat) : ∃ N ok, Walks f N ok := walks_from f _ 0 (Nat.le_refl _) (fun j hj => absurd hj (Nat.not_lt_zero _))
section
variable {f : Nat → Nat} {N : Nat} {ok : Bool}
theorem Walks.ge (h : Walks f N ok) : ∀ k, k ≤ N → 3776 + 48 * k ≤ offs f k := by
  intro k
  induction k with
  | zero => intro _; exact Nat.le_refl _
  | succ k ih =>
    intro hk
    have h1 := ih (by omega)
    have h2 := bk_ge (h.lt k (by omega)).2
    show 3776 + 48 * (k + 1) ≤ offs f k + usz (f (offs f k))
    omega
theorem Walks.le (h : Walks f N ok) (hz : 3776 ≤ f 16) : ∀ k, k ≤ N → offs f k ≤ f 16 := by
  intro k
  cases k with
  | zero => intro _; exact hz
  | succ k =>
    intro hk
    exact (bk_ge (h.lt k (by omega)).2).2.1
theorem Walks.len (h : Walks f N ok) : 48 * N ≤ f 16 := by
  cases N with
  | zero => omega
  | succ k =>
    have h1 := h.ge (k + 1) (Nat.le_refl _)
    have h2 := (bk_ge (h.lt k (Nat.lt_succ_self k)).2).2.1
    have e : offs f (k + 1) = offs f k + usz (f (offs f k)) := rfl
    omega
theorem Walks.mono (h : Walks f N ok) {i j : Nat} (hij : i < j) (hj : j ≤ N) : offs f i + 48 ≤ offs f j := by
  induction j with
  | zero => omega
  | succ j ih =>
    have h2 := (bk_ge (h.lt j (by omega)).2).1
    have e : offs f (j + 1) = offs f j + usz (f (offs f j)) := rfl
    rcases Nat.lt_succ_iff_lt_or_eq.1 hij with h3 | rfl
    · have := ih h3 (by omega); omega
    · omega
theorem Walks.inj (h : Walks f N ok) {i j : Nat} (hi : i < N) (hj : j < N) (he : offs f i = offs f j) : i = j := by
  rcases Nat.lt_trichotomy i j with h1 | h1 | h1
  · have := h.mono h1 (Nat.le_of_lt hj); omega
  · exact h1
  · have := h.mono h1 (Nat.le_of_lt hi); omega
end
def blks (f : Nat → Nat) (N : Nat) : List Blk := (List.range N).map fun k => bkAt f (offs f k)
theorem blks_len (f : Nat → Nat) (N : Nat) : (blks f N).length = N := by simp [blks]
def wkL (f : Nat → Nat) (N : Nat) (ok : Bool) : List Blk := if ok then blks f N else []
def wkE (ok : Bool) : Nat := if ok then 0 else 12
def cellsB (l : List Blk) : List Value := l.flatMap Blk.row
theorem cellsB_snoc (l : List Blk) (b : Blk) : cellsB (l ++ [b]) = cellsB l ++ b.row := by simp [cellsB, List.flatMap_append]
theorem cellsB_len (l : List Blk) : (cellsB l).length = l.length * 5 := by
  induction l with
  | nil => rfl
  | cons b l ih =>
    show (b.row ++ cellsB l).length = _
    rw [List.length_append, ih]
    simp [Blk.row]
    omega
theorem cellsB_at (l : List Blk) (k i : Nat) (h : k < l.length) (hi : i < 5) : (cellsB l)[k * 5 + i]? = (l.getD k default).row[i]? := by
  induction l generalizing k with
  | nil => simp at h
  | cons b l ih =>
    show (b.row ++ cellsB l)[k * 5 + i]? = _
    have hb : b.row.length = 5 := rfl
    cases k with
    | zero =>
      rw [List.getElem?_append_left (by rw [hb]; omega)]
      simp
    | succ k =>
      rw [List.getElem?_append_right (by rw [hb]; omega), hb, show (k + 1) * 5 + i - 5 = k * 5 + i by omega, ih k (by simpa using h)]
      simp
end Go.Proofs.YtmcnpenihoaajaaGreat
namespace Go.Proofs.YtmcnpenihoaajaaGreat
open Go.RowKit Go.Shelf
attribute [local go_sem] Oper.semAt_some
def bkV (f : Nat → Nat) (k : Nat) : Array Value := #[.agg (bkR f (offs f k)).row.toArray, .int .i64 (bkE f (offs f k) : Nat)]
def bkN (N : Nat) (ok : Bool) : Nat := if ok then N else N + 1
def RowAt (lb : Nat) (A : World) (b : Nat) : Prop := ∃ v : Value, A.cell? ⟨lb, 0, none⟩ = some v ∧ v.ownBlock = some b
theorem RowAt.back {lb : Nat} {A C : World} {row : Option Nat} {b : Nat} (h : RowAt lb C b) (hg : A.grownBy C row) (hlb : lb < A.heap.size) (hr : row ≠ some lb) : RowAt lb A b := by
  obtain ⟨v, h1, h2⟩ := h
  refine ⟨v, ?_, h2⟩
  have := hg.block lb hlb (fun e => hr e.symm)
  unfold World.cell? at h1 ⊢
  simp only [this] at h1
  exact h1
def Small (A : World) (b : Nat) : Prop := ∃ c t fr, A.heap[b]? = some (.cells c t fr) ∧ c.size ≤ 5
theorem Small.lt {A : World} {b : Nat} (h : Small A b) : b < A.heap.size := by
  obtain ⟨c, t, fr, h1, _⟩ := h
  exact lt_of_block h1
structure BkKeep (n0 lb : Nat) (A C : World) : Prop where
  below : Below n0 A C
  frame : ∀ b, Small A b → b ≠ lb → ¬ RowAt lb A b → C.heap[b]? = A.heap[b]?
  row : ∀ b, RowAt lb C b → RowAt lb A b ∨ (A.heap.size ≤ b ∧ b < C.heap.size) ∨ b = lb ∨ (b < A.heap.size ∧ ¬ Small A b)
theorem BkKeep.trans {n0 lb : Nat} {A C E : World} (h : BkKeep n0 lb A C) (k : BkKeep n0 lb C E) : BkKeep n0 lb A E where
  below := h.below.trans k.below
  frame := fun b hb hn hr => by
    have e := h.frame b hb hn hr
    have hs : Small C b := by
      obtain ⟨c, t, fr, h1, h2⟩ := hb
      exact ⟨c, t, fr, e.trans h1, h2⟩
    refine (k.frame b hs hn (fun hC => ?_)).trans e
    rcases h.row b hC with h1 | h1 | h1 | h1
    · exact hr h1
    · have := hb.lt; omega
    · exact hn h1
    · exact h1.2 hb
  row := fun b hb => by
    have h1 := h.below.size
    have h2 := k.below.size
    rcases k.row b hb with h3 | h3 | h3 | h3
    · rcases h.row b h3 with h4 | h4 | h4 | h4
      · exact .inl h4
      · exact .inr (.inl ⟨h4.1, by omega⟩)
      · exact .inr (.inr (.inl h4))
      · exact .inr (.inr (.inr h4))
    · exact .inr (.inl ⟨by omega, h3.2⟩)
    · exact .inr (.inr (.inl h3))
    · rcases Nat.lt_or_ge b A.heap.size with h5 | h5
      · by_cases h6 : b = lb
        · exact .inr (.inr (.inl h6))
        · by_cases h7 : RowAt lb A b
          · exact .inl h7
          · refine .inr (.inr (.inr ⟨h5, fun hs => h3.2 ?_⟩))
            have e := h.frame b hs h6 h7
            obtain ⟨c, t, fr, h1, h2⟩ := hs
            exact ⟨c, t, fr, e.trans h1, h2⟩
      · exact .inr (.inl ⟨h5, by omega⟩)
theorem BkKeep.put {n0 lb : Nat} {w0 : World} (hlb : lb < w0.heap.size) (hn : n0 ≤ w0.heap.size) (W : World) (l : Nat) (o o' : Obj) (hl : w0.heap.size ≤ l) (h : W.heap[l]? = some o) (hc : o.isCells = false) (hw : o.isWalk = false) : BkKeep n0 lb W (W.putObj l o') where
  below := belowK_b (w := w0) hn W l o o' hl h hc hw
  frame := fun b hb _ _ => World.putObj_heap_other (fun e => by
    obtain ⟨c, t, fr, hb, _⟩ := hb
    subst e; rw [h] at hb; cases hb; cases hc)
  row := fun b hb => .inl (by
    obtain ⟨v, h1, h2⟩ := hb
    refine ⟨v, ?_, h2⟩
    have : (W.putObj l o').heap[lb]? = W.heap[lb]? := World.putObj_heap_other (by omega)
    unfold World.cell? at h1 ⊢
    simp only [this] at h1
    exact h1)
theorem BkKeep.alloc {n0 lb : Nat} (W : World) (o : Obj) (hn : n0 ≤ W.heap.size) (hlb : lb < W.heap.size) : BkKeep n0 lb W (W.alloc o) where
  below := (Below.refl _ W).alloc hn _
  frame := fun b hb _ _ => Below.heap_alloc _ _ _ hb.lt
  row := fun b hb => .inl (hb.back (World.grownBy_alloc W o none) hlb (by simp))
theorem blocks_any (p : Option Addr) (w : World) : Calls Tryz.prog 80 #[.pointer p] w fun e w' => e = .returned (.func (.func 119) #[] #[.pointer (some ⟨w.heap.size, 0, none⟩)]) ∧ w.alloc (.cells #[.pointer p] 66) = w' := by
  go_enter Tryz.func80, Tryz.ntmps80
  go_wp2
  go_ret
  exact ⟨rfl, rfl⟩
section
variable {w : World} {T M : Nat} {R : Option Nat} {B D : Nat} {ws : List Nat} {l : List (Nat × Nat)}
set_option maxRecDepth 100000 in
set_option maxHeartbeats 2000000 in
theorem blocks1_in (h : Thinks w T M R B D ws l) (yl bx lb : Nat) {N : Nat} {ok : Bool} (hw : Walks (txSee ws l) N ok) (J Jx : List Nat → World → Prop)
    (hY : ∀ pre x W, J pre W → pre.length < bkN N ok → YieldAt Fence.wide 4 Tryz.prog yl (bkV (txSee ws l) x) W fun e W' =>
      (e = .returned (.bool true) ∧ J (pre ++ [x]) W' ∧ BkKeep w.heap.size lb W W') ∨ (e = .returned (.bool false) ∧ Jx (pre ++ [x]) W'))
    (W : World) (hJ : AbidesFrom W.heap.size J) (hJx : AbidesFrom W.heap.size Jx) (hB : Below w.heap.size w W) (hbx : W.heap[bx]? = some (.cells #[.pointer (some ⟨T, 0, none⟩)] 66 (0, 0))) (hlb : lb < W.heap.size) (hbl : bx ≠ lb) (hl : ∀ b, ¬ RowAt lb W b) (h0 : J [] W) :
    CallsIn Fence.wide 5 Tryz.prog 119 #[.func (.yield yl) #[] #[], .pointer (some ⟨bx, 0, none⟩)] W fun e W' => (∃ v, e = .returned v) ∧
      ((∃ ys, ys = List.range (bkN N ok) ∧ J ys W') ∨ (∃ pre, (∃ m, m ≤ bkN N ok ∧ pre = List.range m) ∧ Jx pre W')) := by
  have cb : W.cell? ⟨bx, 0, none⟩ = some (.pointer (some ⟨T, 0, none⟩)) := cell_of_one hbx
  have hW := h.later (below_grown hB)
  have hsz := (callsIn_wide (n := 4)).2 (hsize_any hW)
  have hlt := txSee_lt h.seg.words h.ok
  have hrd := fun (w1 : World) (hb1 : Below w.heap.size w w1) (off : Nat) (ho : off < 18446744073709551616) => (callsIn_wide (n := 4)).2 (pread_any (h.later (below_grown hb1)) off ho)
  obtain ⟨f, ef⟩ : ∃ f, txSee ws l = f := ⟨_, rfl⟩
  rw [ef] at hw hY hsz hlt hrd
  have hz := hlt 16
  obtain ⟨z, ez⟩ : ∃ z, f 16 = z := ⟨_, rfl⟩
  rw [ez] at hz hsz
  refine callsIn_of_wp Tryz.func119 rfl trivial ?_ rfl
  simp only [Tryz.ntmps119, List.size_toArray, List.length_cons, List.length_nil, Nat.reduceAdd, Nat.reduceSub, Array.replicate_succ, Array.replicate_zero, List.push_toArray, List.append_toArray, List.nil_append, List.cons_append]
  gi_wp2_with (refine ⟨trivial, ?_⟩; gi_at_call 33; (with_reducible refine hsz.mono ?_); rintro e w1 ⟨rfl, hg1⟩)
  have hB1 : Below w.heap.size w w1 := hB.grown hg1 hB.size (fun k e => by cases e)
  have hJ1 := hJ _ _ _ none h0 hg1 (fun r e => by cases e)
  have hbx1 := (hg1.block bx (lt_of_block hbx) (by simp)).trans hbx
  gi_loopw [4] (fun i wr => ∃ k : Nat, k ≤ N ∧ i = .int .u64 (offs f k : Nat) ∧ J (List.range k) wr ∧ Below w.heap.size w wr ∧ wr.heap[bx]? = some (.cells #[.pointer (some ⟨T, 0, none⟩)] 66 (0, 0)) ∧ W.heap.size ≤ wr.heap.size ∧ ∀ b, RowAt lb wr b → b < wr.heap.size ∧ b ≠ bx)
    (fun i _ => z - (intOf i).toNat)
  case atStart => exact ⟨0, Nat.zero_le _, rfl, hJ1, hB1, hbx1, hg1.size, fun b hb => absurd (hb.back hg1 hlb (by simp)) (hl b)⟩
  case round =>
    obtain ⟨k, hk, rfl, hJk, hBk, hbk, hsk, hrk⟩ := hrel
    clear cb hB1 hJ1 hbx1 hsz hW
    have cb : wr.cell? ⟨bx, 0, none⟩ = some (.pointer (some ⟨T, 0, none⟩)) := cell_of_one hbk
    by_cases hk2 : offs f k < z
    · have ho : offs f k < 18446744073709551616 := by omega
      have hread := hrd wr hBk (offs f k) ho
      have hkM : k < bkN N ok := by
        unfold bkN
        split
        · rename_i e
          rcases Nat.lt_or_ge k N with h3 | h3
          · exact h3
          · have := hw.fin
            rw [if_pos e, ez] at this
            obtain rfl : k = N := by omega
            omega
        · omega
      have hYk := fun (W1 : World) (hJ1 : J (List.range k) W1) => hY (List.range k) k W1 hJ1 (by simpa using hkM)
      unfold bkV at hYk
      have hnext : bkP f (offs f k) → k < N ∧ offs f k + usz (f (offs f k)) = offs f (k + 1) ∧ usz (f (offs f k)) < 18446744073709551616 ∧ offs f (k + 1) ≤ z ∧ 48 ≤ usz (f (offs f k)) := fun hb => by
        have h1 := bk_ge hb
        rw [ez] at h1
        have h2 : offs f (k + 1) = offs f k + usz (f (offs f k)) := rfl
        refine ⟨?_, rfl, by omega, by omega, h1.1⟩
        rcases Nat.lt_or_ge k N with h3 | h3
        · exact h3
        · have h4 := hw.fin
          obtain rfl : k = N := by omega
          cases ok
          · rw [if_neg (by simp)] at h4; exact absurd hb h4.2
          · rw [if_pos rfl, ez] at h4; omega
      by_cases hb : bkP f (offs f k)
      · obtain ⟨hkN, hn1, hn2, hn3, hn4⟩ := hnext hb
        rw [(bk_yes hb).1, (bk_yes hb).2] at hread hYk
        simp only [bkAt, Blk.row, show ((0 : Nat) : Int) = 0 from rfl] at hread hYk
        obtain ⟨off, eoff⟩ : ∃ x, offs f k = x := ⟨_, rfl⟩
        obtain ⟨off2, eoff2⟩ : ∃ x, offs f (k + 1) = x := ⟨_, rfl⟩
        obtain ⟨s, es⟩ : ∃ x, usz (f (offs f k)) = x := ⟨_, rfl⟩
        obtain ⟨u, eu⟩ : ∃ x, uus (f (offs f k)) = x := ⟨_, rfl⟩
        obtain ⟨o, eo⟩ : ∃ x, uow (f (offs f k)) = x := ⟨_, rfl⟩
        obtain ⟨n, en⟩ : ∃ x, bkL f (offs f k) = x := ⟨_, rfl⟩
        rw [es, eoff2] at hn1
        rw [es] at hn2 hn4
        rw [eoff2] at hn3
        rw [es, eu, eo, en] at hread hYk
        rw [eoff] at hread hYk hn1 hk2 ho ⊢
        have e1 : IntKind.u64.wrap ((off : Int) + (s : Int)) = (off2 : Nat) := by rw [IntKind.wrap_u64]; omega
        have HE := Lib.hid eoff2
        have HJ := Lib.hid hJk
        have HJJ := Lib.hid hJ
        clear eoff es eu eo en hnext hb eoff2 hw hY hrd hJk hJ hJx
        gi_wp2_with (refine ⟨trivial, ?_⟩; gi_at_call 120; (with_reducible refine hread.mono ?_); rintro e w2 ⟨rfl, hg2⟩; have hga := World.grownBy_alloc w2 (.cells #[.int .u64 off, .int .u64 s, .bool u, .int .i64 o, .int .u64 n] 128) none; have hbn := five_first (grown_refl (w2.alloc (.cells #[.int .u64 off, .int .u64 s, .bool u, .int .i64 o, .int .u64 n] 128)) none); obtain ⟨q0, q1, q2, q3, q4⟩ := five_cells hbn; have hJ3 := HJJ.out _ _ _ none (HJJ.out _ _ _ none HJ.out hg2 (fun r e => by cases e)) hga (fun r e => by cases e); obtain ⟨fn, tmps, assign, body, hyy, hR⟩ := hYk _ hJ3)
        refine hR.mono ?_
        rintro e W3 (⟨rfl, hJ4, hk4⟩ | ⟨rfl, hJx4⟩)
        · have hne : w2.heap.size ≠ lb := by have := hg2.size; omega
          have hnr : ¬ RowAt lb (w2.alloc (.cells #[.int .u64 off, .int .u64 s, .bool u, .int .i64 o, .int .u64 n] 128)) w2.heap.size := fun hr => by
            have h1 := hr.back (grown_trans hg2 hga) (by omega) (by simp)
            have := (hrk _ h1).1
            have := hg2.size
            omega
          have hb3 := (hk4.frame _ ⟨_, _, _, hbn, by simp⟩ hne hnr).trans hbn
          obtain ⟨y0, y1, y2, y3, y4⟩ := five_cells hb3
          have HB3 := Lib.hid hb3
          clear q0 q1 q2 q3 q4 hbn hb3
          gi_wp2
          have g3 := grown_trans hg2 hga
          have hs3 := g3.size
          have hs4 := hk4.below.size
          have hbx4 : W3.heap[bx]? = some (.cells #[.pointer (some ⟨T, 0, none⟩)] 66 (0, 0)) := by
            have h5 := (g3.block bx (lt_of_block hbk) (by simp)).trans hbk
            exact (hk4.frame bx ⟨_, _, _, h5, by simp⟩ hbl (fun hr => (hrk _ (hr.back g3 (by omega) (by simp))).2 rfl)).trans h5
          refine ⟨⟨k + 1, hkN, by rw [HE.out], by rw [List.range_succ]; exact hJ4, (hBk.grown g3 hBk.size (fun k e => by cases e)).trans hk4.below, hbx4, by omega, fun b hb => ?_⟩, by simp [intOf]; omega⟩
          have hbx5 := lt_of_block hbk
          rcases hk4.row b hb with h5 | h5 | h5 | h5
          · have := hrk _ (h5.back g3 (by omega) (by simp))
            exact ⟨by omega, this.2⟩
          · exact ⟨by omega, by omega⟩
          · exact ⟨by omega, fun e => hbl (by omega)⟩
          · refine ⟨by omega, fun e => h5.2 ?_⟩
            subst e
            exact ⟨_, _, _, (g3.block b hbx5 (by simp)).trans hbk, by simp⟩
        · gi_wp2
          refine bodyPost_ret (results_none rfl _ _ _) rfl ?_
          exact ⟨⟨_, rfl⟩, .inr ⟨_, ⟨k + 1, hkM, by rw [List.range_succ]⟩, hJx4⟩⟩
      · have hkk : k + 1 = bkN N ok := by
          have hkN : k = N := by
            rcases Nat.lt_or_ge k N with h3 | h3
            · exact absurd (hw.lt k h3).2 hb
            · omega
          unfold bkN
          split
          · rename_i e
            have h4 := hw.fin
            rw [if_pos e, ez, ← hkN] at h4
            omega
          · omega
        rw [(bk_no hb).1, (bk_no hb).2] at hread hYk
        simp only [Blk.none, Blk.row, show ((0 : Nat) : Int) = 0 from rfl, show ((12 : Nat) : Int) = 12 from rfl] at hread hYk
        obtain ⟨off, eoff⟩ : ∃ x, offs f k = x := ⟨_, rfl⟩
        rw [eoff] at hread hk2 ho ⊢
        have HJ := Lib.hid hJk
        have HJJ := Lib.hid hJ
        clear eoff hnext hb hw hY hrd hJk hJ hJx
        gi_wp2_with (refine ⟨trivial, ?_⟩; gi_at_call 120; (with_reducible refine hread.mono ?_); rintro e w2 ⟨rfl, hg2⟩; have hga := World.grownBy_alloc w2 (.cells #[.int .u64 0, .int .u64 0, .bool false, .int .i64 0, .int .u64 0] 128) none; have hbn := five_first (grown_refl (w2.alloc (.cells #[.int .u64 0, .int .u64 0, .bool false, .int .i64 0, .int .u64 0] 128)) none); obtain ⟨q0, q1, q2, q3, q4⟩ := five_cells hbn; have hJ3 := HJJ.out _ _ _ none (HJJ.out _ _ _ none HJ.out hg2 (fun r e => by cases e)) hga (fun r e => by cases e); obtain ⟨fn, tmps, assign, body, hyy, hR⟩ := hYk _ hJ3)
        refine hR.mono ?_
        rintro e W3 (⟨rfl, hJ4, hk4⟩ | ⟨rfl, hJx4⟩)
        · gi_wp2
          refine bodyPost_ret (results_none rfl _ _ _) rfl ?_
          exact ⟨⟨_, rfl⟩, .inl ⟨_, rfl, by rw [← hkk, List.range_succ]; exact hJ4⟩⟩
        · gi_wp2
          refine bodyPost_ret (results_none rfl _ _ _) rfl ?_
          exact ⟨⟨_, rfl⟩, .inr ⟨_, ⟨k + 1, hkM, by rw [List.range_succ]⟩, hJx4⟩⟩
    · have hkk : k = bkN N ok := by
        have hkN : k = N := by
          rcases Nat.lt_or_ge k N with h3 | h3
          · have := (hw.lt k h3).1; omega
          · omega
        unfold bkN
        split
        · exact hkN
        · rename_i e
          have h4 := hw.fin
          rw [if_neg e, ez, ← hkN] at h4
          omega
      obtain ⟨off, eoff⟩ : ∃ x, offs f k = x := ⟨_, rfl⟩
      rw [eoff] at hk2 ⊢
      clear eoff hw hY hrd hJ hJx
      gi_wp2
      go_end0
      exact ⟨⟨_, rfl⟩, .inl ⟨_, rfl, by rw [← hkk]; exact hJk⟩⟩
theorem blocks_stops (h : Thinks w T M R B D ws l) (bx lb : Nat) {N : Nat} {ok : Bool} (hw : Walks (txSee ws l) N ok) {w1 : World} (hB : Below w.heap.size w w1) (hbx : w1.heap[bx]? = some (.cells #[.pointer (some ⟨T, 0, none⟩)] 66 (0, 0))) (hlb : lb < w1.heap.size) (hbl : bx ≠ lb) (hl : ∀ b, ¬ RowAt lb w1 b) :
    SeqStopsK Fence.wide 5 Tryz.prog 119 #[.pointer (some ⟨bx, 0, none⟩)] (bkV (txSee ws l)) (BkKeep w.heap.size lb) (fun ys => ys = List.range (bkN N ok)) (fun pre => ∃ m, m ≤ bkN N ok ∧ pre = List.range m) (bkN N ok) w1 :=
  fun yl J Jx W hW hJ hJx hY h0 =>
    blocks1_in h yl bx lb hw J Jx hY W hJ hJx (hB.trans (below_grown hW |> fun g => (Below.refl _ w1).grown g hB.size (fun k e => by cases e))) ((hW.block bx (lt_of_block hbx)).trans hbx) (Nat.lt_of_lt_of_le hlb hW.size) hbl (fun b hb => hl b (hb.back (below_grown hW) hlb (by simp))) h0
end
end Go.Proofs.YtmcnpenihoaajaaGreat
