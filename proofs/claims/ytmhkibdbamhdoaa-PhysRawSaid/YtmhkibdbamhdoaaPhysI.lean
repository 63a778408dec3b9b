/-
  What the statements of layer 6 compare with: made, and same at rows of the same blocks.
  Conditions: the blocks lie in memory; there are 1000000 at most.
-/
import Derived.Test.YtmhkibdbamhdoaaPhysE
import Derived.Laws.StructEq
namespace Go.Proofs.Ytmhkibdbamhdoaa
open Go.RowKit
set_option linter.unusedVariables false
set_option linter.unusedSimpArgs false

set_option maxHeartbeats 1000000 in
theorem made6_any (b : Blk) (w : World) :
    Calls Try.prog 16 #[.agg #[.int .u64 (b.off : Nat), .int .u64 (b.s : Nat), .bool b.u, .int .i64 b.o, .int .u64 (b.n : Nat)]] w fun e w' => e = .returned (.agg #[.int .u64 (b.off : Nat), .int .u64 (b.s : Nat), .bool b.u, .int .i64 b.o, .int .u64 (b.n : Nat)]) ∧ w.grownBy w' none := by
  obtain ⟨x0, x1, x2, x3, x4⟩ := b
  simp only
  go_enter Try.func16, Try.ntmps16
  go_wp2
  have hb := heap_alloc_new' (w.alloc (.cells #[.int .u64 (x0 : Nat), .int .u64 (x1 : Nat), .bool x2, .int .i64 x3, .int .u64 (x4 : Nat)] 47)) (.cells #[.int .u64 (x0 : Nat), .int .u64 (x1 : Nat), .bool x2, .int .i64 x3, .int .u64 (x4 : Nat)] 42)
  rw [World.size_alloc] at hb
  refine bodyPost_ret (results_cell_row (by kernel_rfl : Try.f16.results = #[.cell 2 42]) _ _ (w.heap.size + 1) 42 _ (0, 0) _ rfl hb Try.underlying42 rfl (by kernel_rfl)) rfl ?_
  exact ⟨rfl, grown_trans (World.grownBy_alloc _ _ _) (World.grownBy_alloc _ _ _)⟩
set_option maxRecDepth 100000 in
set_option maxHeartbeats 2000000 in
theorem same6_yes {w : World} {la la2 : Option Addr} {c c2 : Nat} {l : List Blk} (h : BlksAt w la l) (h2 : BlksAt w la2 l) (hl : l.length ≤ 1000000) :
    Calls Try.prog 15 #[.slice la l.length c, .slice la2 l.length c2] w fun e w' => e = .returned (.bool true) ∧ w.grownBy w' none := by
  obtain ⟨n, hn⟩ : ∃ n, l.length = n := ⟨_, rfl⟩
  have HN := Lib.hid hn
  rw [hn] at hl ⊢
  clear hn
  have e0 : ((n : Int) != (n : Int)) = false := by simp
  go_enter Try.func15, Try.ntmps15
  go_wp2
  go_loopw [5] (fun i wr => ∃ k : Nat, k ≤ n ∧ i = .int .i64 k ∧ w.grownBy wr none) (fun i _ => n - (intOf i).toNat)
  case atStart => exact ⟨0, Nat.zero_le _, rfl, grown_refl _ _⟩
  case round =>
    obtain ⟨k, hk, rfl, hg⟩ := hrel
    rcases Nat.lt_or_ge k n with h1 | h1
    · obtain ⟨b, o, rfl, hb, hcs⟩ := (h.later hg).cells (by rw [HN.out]; omega)
      obtain ⟨b2, o2, rfl, hb2, hcs2⟩ := (h2.later hg).cells (by rw [HN.out]; omega)
      have hk1 : k < l.length := by rw [HN.out]; exact h1
      obtain ⟨x0, ex0⟩ : ∃ x, gO l k = x := ⟨_, rfl⟩
      obtain ⟨x1, ex1⟩ : ∃ x, gS l k = x := ⟨_, rfl⟩
      obtain ⟨x2, ex2⟩ : ∃ x, gU l k = x := ⟨_, rfl⟩
      obtain ⟨x3, ex3⟩ : ∃ x, gW l k = x := ⟨_, rfl⟩
      obtain ⟨x4, ex4⟩ : ∃ x, gN l k = x := ⟨_, rfl⟩
      obtain ⟨c0, c1, c2, c3, c4⟩ := hcs k hk1
      obtain ⟨d0, d1, d2, d3, d4⟩ := hcs2 k hk1
      rw [ex0] at c0 d0
      rw [ex1] at c1 d1
      rw [ex2] at c2 d2
      rw [ex3] at c3 d3
      rw [ex4] at c4 d4
      have hmd := fun w => made6_any ⟨x0, x1, x2, x3, x4⟩ w
      simp only at hmd
      have hcell : ∀ {wq : World}, wr.grownBy wq none → (wq.cell? ⟨b, o + k * 5, none⟩ = some (.int .u64 (x0 : Nat)) ∧ wq.cell? ⟨b, o + k * 5 + 1, none⟩ = some (.int .u64 (x1 : Nat)) ∧ wq.cell? ⟨b, o + k * 5 + 2, none⟩ = some (.bool x2) ∧ wq.cell? ⟨b, o + k * 5 + 3, none⟩ = some (.int .i64 x3) ∧ wq.cell? ⟨b, o + k * 5 + 4, none⟩ = some (.int .u64 (x4 : Nat))) ∧
          (wq.cell? ⟨b2, o2 + k * 5, none⟩ = some (.int .u64 (x0 : Nat)) ∧ wq.cell? ⟨b2, o2 + k * 5 + 1, none⟩ = some (.int .u64 (x1 : Nat)) ∧ wq.cell? ⟨b2, o2 + k * 5 + 2, none⟩ = some (.bool x2) ∧ wq.cell? ⟨b2, o2 + k * 5 + 3, none⟩ = some (.int .i64 x3) ∧ wq.cell? ⟨b2, o2 + k * 5 + 4, none⟩ = some (.int .u64 (x4 : Nat))) := fun {wq} hq => by
        have q1 := hq.block b hb (by simp)
        have q2 := hq.block b2 hb2 (by simp)
        have K1 : ∀ {i v}, wr.cell? ⟨b, i, none⟩ = some v → wq.cell? ⟨b, i, none⟩ = some v := fun {i v} hv => (World.cell?_of_block (w := wr) (a := ⟨b, i, none⟩) q1).trans hv
        have K2 : ∀ {i v}, wr.cell? ⟨b2, i, none⟩ = some v → wq.cell? ⟨b2, i, none⟩ = some v := fun {i v} hv => (World.cell?_of_block (w := wr) (a := ⟨b2, i, none⟩) q2).trans hv
        exact ⟨⟨K1 c0, K1 c1, K1 c2, K1 c3, K1 c4⟩, K2 d0, K2 d1, K2 d2, K2 d3, K2 d4⟩
      have HG : wr.grownBy wr.drew none := grown_drew (grown_refl _ _)
      clear c0 c1 c2 c3 c4 d0 d1 d2 d3 d4 hcs hcs2 ex0 ex1 ex2 ex3 ex4 h h2
      obtain ⟨⟨c0, c1, c2, c3, c4⟩, d0, d1, d2, d3, d4⟩ := hcell HG
      go_wp2
      go_region_held3 (fun wq => (wq.cell? ⟨b, o + k * 5, none⟩ = some (.int .u64 (x0 : Nat)) ∧ wq.cell? ⟨b, o + k * 5 + 1, none⟩ = some (.int .u64 (x1 : Nat)) ∧ wq.cell? ⟨b, o + k * 5 + 2, none⟩ = some (.bool x2) ∧ wq.cell? ⟨b, o + k * 5 + 3, none⟩ = some (.int .i64 x3) ∧ wq.cell? ⟨b, o + k * 5 + 4, none⟩ = some (.int .u64 (x4 : Nat))) ∧
          (wq.cell? ⟨b2, o2 + k * 5, none⟩ = some (.int .u64 (x0 : Nat)) ∧ wq.cell? ⟨b2, o2 + k * 5 + 1, none⟩ = some (.int .u64 (x1 : Nat)) ∧ wq.cell? ⟨b2, o2 + k * 5 + 2, none⟩ = some (.bool x2) ∧ wq.cell? ⟨b2, o2 + k * 5 + 3, none⟩ = some (.int .i64 x3) ∧ wq.cell? ⟨b2, o2 + k * 5 + 4, none⟩ = some (.int .u64 (x4 : Nat)))) (exact hcell HG)
        (first | (go_at_call 16; ((with_reducible refine (hmd _).mono ?_); rintro e w9 ⟨rfl, hg9⟩; replace HG := grown_trans HG hg9)))
      have hend := grown_trans hg HG
      go_wp2
      go_roundw
      case rel => exact ⟨k + 1, by omega, by go_num, hend⟩
      case measure => simp [intOf]; omega
    · obtain rfl : k = n := by omega
      clear h h2
      go_wp2
      go_ret
      exact ⟨rfl, hg⟩
end Go.Proofs.Ytmhkibdbamhdoaa
