/-
  What the statements of layer 10 ask with: made, and sound, over a Tx whose words tell the heap that stands by value beside it.
  Conditions: the Tx, and the heap's rows, stand in memory.
-/
import Derived.Test.YtoamlkljfmgomaaGreatCarV
import Derived.Test.YtoamlkljfmgomaaGreatCarK
import Derived.Test.YtoamlkljfmgomaaGreatLTreez
import Derived.Laws.StructEq
import Derived.Deep.RegionHeld3
import Derived.BigQuiet
namespace Go.Proofs.YtoamlkljfmgomaaGreat
open Go.RowKit
set_option linter.unusedVariables false
set_option linter.unusedSimpArgs false
set_option maxRecDepth 100000

set_option maxHeartbeats 1000000 in
theorem made10_any (b : Blk) (w : World) :
    Calls Tryz.prog 32 #[.agg #[.int .u64 (b.off : Nat), .int .u64 (b.s : Nat), .bool b.u, .int .i64 b.o, .int .u64 (b.n : Nat)]] w fun e w' => e = .returned (.agg #[.int .u64 (b.off : Nat), .int .u64 (b.s : Nat), .bool b.u, .int .i64 b.o, .int .u64 (b.n : Nat)]) ∧ w.grownBy w' none := by
  obtain ⟨x0, x1, x2, x3, x4⟩ := b
  simp only
  go_enter Tryz.func32, Tryz.ntmps32
  go_wp2
  have hb := heap_alloc_new' (w.alloc (.cells #[.int .u64 (x0 : Nat), .int .u64 (x1 : Nat), .bool x2, .int .i64 x3, .int .u64 (x4 : Nat)] 43)) (.cells #[.int .u64 (x0 : Nat), .int .u64 (x1 : Nat), .bool x2, .int .i64 x3, .int .u64 (x4 : Nat)] 66)
  rw [World.size_alloc] at hb
  refine bodyPost_ret (results_cell_row (by kernel_rfl : Tryz.f32.results = #[.cell 2 66]) _ _ (w.heap.size + 1) 66 _ (0, 0) _ rfl hb Tryz.underlying66 rfl (by kernel_rfl)) rfl ?_
  exact ⟨rfl, grown_trans (World.grownBy_alloc _ _ _) (World.grownBy_alloc _ _ _)⟩
section
variable {w0 w : World} {T : Nat} {R : Option Nat} {ws : List Nat} {E base : Nat} {bs : List Blk} {L : Nat → List Nat} {v : Value}
set_option maxHeartbeats 8000000 in
theorem sound10_any (h : HW w0 w T R ws E bs L) (hv : HvIs w base v E bs L) :
    Calls Tryz.prog 13 #[.pointer (some ⟨T, 0, none⟩), v] w fun e w' => e = .returned (.bool true) ∧ w.grownBy w' none := by
  obtain ⟨b, vs, rfl, hb, hl⟩ := hv.is
  obtain ⟨va, ln, vc, hve, hl', hln⟩ := heap_lie (E := E) (b := b) hl
  rw [hve]
  clear hve hl
  have hfr := fun (V : World) (hg : w.grownBy V none) => rfrees_any (v := heapV E b fun c => .slice (va c) (ln c) (vc c)) (⟨⟨b, _, rfl, hb.later hg, fun c hc => (hl' c hc).later hg⟩⟩ : HvIs V base _ E bs L) (hw_few h)
  obtain ⟨la, cap, hbe, hat⟩ := hb.at_
  subst hbe
  obtain ⟨n, hn⟩ : ∃ n, bs.length = n := ⟨_, rfl⟩
  rw [hn] at hfr ⊢
  have hfew := hw_few h
  rw [hn] at hfew
  have hwk := fun (V : World) (hg : w.grownBy V none) => hw_walk (h.later hg)
  have hsz := fun (V : World) (hg : w.grownBy V none) => hw_size (h.later hg)
  have hli := fun (V : World) (c : Nat) (hg : w.grownBy V none) (hc : c < 8) => hw_list (la := va c) (m := ln c) (k := vc c) (h.later hg) hc ((lie_at (hl' c hc)).later hg) (hln c)
  have htr := fun (V : World) (la : Option Addr) (m k : Nat) (hg : w.grownBy V none) (hw : WordsAt V la (freesB bs)) (hm : (freesB bs).length = m) => hw_tree (k := k) (h.later hg) hw hm
  simp only [heapV] at hfr ⊢
  have hg0 := World.grownBy_alloc w (.cells #[.int .u64 E, .slice la n cap, .slice (va 0) (ln 0) (vc 0), .slice (va 1) (ln 1) (vc 1), .slice (va 2) (ln 2) (vc 2), .slice (va 3) (ln 3) (vc 3), .slice (va 4) (ln 4) (vc 4), .slice (va 5) (ln 5) (vc 5), .slice (va 6) (ln 6) (vc 6), .slice (va 7) (ln 7) (vc 7)] 30) none
  have hbx0 := heap_alloc_new' w (.cells #[.int .u64 E, .slice la n cap, .slice (va 0) (ln 0) (vc 0), .slice (va 1) (ln 1) (vc 1), .slice (va 2) (ln 2) (vc 2), .slice (va 3) (ln 3) (vc 3), .slice (va 4) (ln 4) (vc 4), .slice (va 5) (ln 5) (vc 5), .slice (va 6) (ln 6) (vc 6), .slice (va 7) (ln 7) (vc 7)] 30)
  obtain ⟨hb0, ehb⟩ : ∃ hb0, w.heap.size = hb0 := ⟨_, rfl⟩
  have hbx : ∀ V : World, (w.alloc (.cells #[.int .u64 E, .slice la n cap, .slice (va 0) (ln 0) (vc 0), .slice (va 1) (ln 1) (vc 1), .slice (va 2) (ln 2) (vc 2), .slice (va 3) (ln 3) (vc 3), .slice (va 4) (ln 4) (vc 4), .slice (va 5) (ln 5) (vc 5), .slice (va 6) (ln 6) (vc 6), .slice (va 7) (ln 7) (vc 7)] 30)).grownBy V none → V.heap[hb0]? = some (.cells #[.int .u64 E, .slice la n cap, .slice (va 0) (ln 0) (vc 0), .slice (va 1) (ln 1) (vc 1), .slice (va 2) (ln 2) (vc 2), .slice (va 3) (ln 3) (vc 3), .slice (va 4) (ln 4) (vc 4), .slice (va 5) (ln 5) (vc 5), .slice (va 6) (ln 6) (vc 6), .slice (va 7) (ln 7) (vc 7)] 30 (0, 0)) := fun V hg => by
    rw [← ehb]
    exact (hg.block _ (lt_of_block hbx0) (by simp)).trans hbx0
  obtain ⟨W1, hW1⟩ : ∃ W1, w.alloc (.cells #[.int .u64 E, .slice la n cap, .slice (va 0) (ln 0) (vc 0), .slice (va 1) (ln 1) (vc 1), .slice (va 2) (ln 2) (vc 2), .slice (va 3) (ln 3) (vc 3), .slice (va 4) (ln 4) (vc 4), .slice (va 5) (ln 5) (vc 5), .slice (va 6) (ln 6) (vc 6), .slice (va 7) (ln 7) (vc 7)] 30) = W1 := ⟨_, rfl⟩
  rw [hW1] at hg0 hbx
  have HBX := Lib.hid hbx
  have HAT := Lib.hid hat
  have HN := Lib.hid hn
  have HFR := Lib.hid hfr
  have HTR := Lib.hid htr
  have HLI := Lib.hid hli
  have en : ((n : Int) != (n : Int)) = false := by simp
  have eE : ((E : Int) != (E : Int)) = false := by simp
  have hd0 := hg0
  clear hbx hbx0 hat hn hb hl' hln h hv hfr htr hli
  go_enter Tryz.func13, Tryz.ntmps13
  go_wp2_with (first | (go_at_call 30; (with_reducible refine (hwk _ hg0).mono ?_); rintro e w2 ⟨v2, rfl, ho2, hg2⟩))
  obtain ⟨la2, c2, hv2, hat2⟩ := ho2.at_
  subst hv2
  rw [HN.out]
  have HAT2 := Lib.hid hat2
  clear hat2 ho2
  have hcell : ∀ {wq : World}, w2.grownBy wq none → wq.cell? ⟨hb0, 0, none⟩ = some (.int .u64 E) ∧ wq.cell? ⟨hb0, 1, none⟩ = some (.slice la n cap) := fun {wq} hg => by
    obtain ⟨⟨q0, q1, _⟩, _⟩ := ten_cells (HBX.out wq (grown_trans hg2 hg))
    exact ⟨q0, q1⟩
  have HG : w2.grownBy w2.drew none := grown_drew (grown_refl _ _)
  obtain ⟨d0, d1⟩ := hcell HG
  go_region_held3 (fun w' => w'.cell? ⟨hb0, 0, none⟩ = some (.int .u64 E) ∧ w'.cell? ⟨hb0, 1, none⟩ = some (.slice la n cap)) (go_keep) (first | (go_at_call 31; (with_reducible refine (hsz _ (grown_trans hg0 (grown_trans hg2 HG))).mono ?_); rintro e w3 ⟨rfl, hg3⟩; replace HG := grown_trans HG hg3; obtain ⟨d0, d1⟩ := hcell HG))
  go_wp2
  have hgL : w.grownBy _ none := grown_trans hg0 (grown_trans hg2 HG)
  obtain ⟨W3, hW3⟩ : ∃ W3, w3 = W3 := ⟨_, rfl⟩
  have hsince := grown_trans hg2 HG
  clear hg3 d0 d1 hcell
  go_loopw [7] (fun i wr => ∃ k : Nat, k ≤ n ∧ i = .int .i64 k ∧ w2.grownBy wr none) (fun i _ => n - (intOf i).toNat)
  case atStart => exact ⟨0, Nat.zero_le _, rfl, HG⟩
  case round =>
    obtain ⟨k, hk, rfl, hgk⟩ := hrel
    have hg := grown_trans hg2 hgk
    rcases Nat.lt_or_ge k n with h1 | h1
    · rename_i wr
      obtain ⟨b, o, rfl, hb, hcs⟩ := (HAT2.out.later hgk).cells (by rw [HN.out]; omega)
      obtain ⟨b2, o2, rfl, hb2, hcs2⟩ := (HAT.out.later (grown_trans hg0 hg)).cells (by rw [HN.out]; omega)
      have hk1 : k < bs.length := by rw [HN.out]; exact h1
      obtain ⟨x0, ex0⟩ : ∃ x, gO bs k = x := ⟨_, rfl⟩
      obtain ⟨x1, ex1⟩ : ∃ x, gS bs k = x := ⟨_, rfl⟩
      obtain ⟨x2, ex2⟩ : ∃ x, gU bs k = x := ⟨_, rfl⟩
      obtain ⟨x3, ex3⟩ : ∃ x, gW bs k = x := ⟨_, rfl⟩
      obtain ⟨x4, ex4⟩ : ∃ x, gN bs k = x := ⟨_, rfl⟩
      obtain ⟨c0, c1, c2', c3, c4⟩ := hcs k hk1
      obtain ⟨d0, d1, d2, d3, d4⟩ := hcs2 k hk1
      rw [ex0] at c0 d0
      rw [ex1] at c1 d1
      rw [ex2] at c2' d2
      rw [ex3] at c3 d3
      rw [ex4] at c4 d4
      have hmd := fun w => made10_any ⟨x0, x1, x2, x3, x4⟩ w
      simp only at hmd
      have hheap : ∀ {wq : World}, wr.grownBy wq none → wq.cell? ⟨hb0, 1, none⟩ = some (.slice (some ⟨b2, o2, none⟩) n cap) := fun {wq} hq => by
        obtain ⟨⟨q0, q1, _⟩, _⟩ := ten_cells (HBX.out wq (grown_trans hg hq))
        exact q1
      have hcell : ∀ {wq : World}, wr.grownBy wq none → (wq.cell? ⟨b, o + k * 5, none⟩ = some (.int .u64 (x0 : Nat)) ∧ wq.cell? ⟨b, o + k * 5 + 1, none⟩ = some (.int .u64 (x1 : Nat)) ∧ wq.cell? ⟨b, o + k * 5 + 2, none⟩ = some (.bool x2) ∧ wq.cell? ⟨b, o + k * 5 + 3, none⟩ = some (.int .i64 x3) ∧ wq.cell? ⟨b, o + k * 5 + 4, none⟩ = some (.int .u64 (x4 : Nat))) ∧
          (wq.cell? ⟨b2, o2 + k * 5, none⟩ = some (.int .u64 (x0 : Nat)) ∧ wq.cell? ⟨b2, o2 + k * 5 + 1, none⟩ = some (.int .u64 (x1 : Nat)) ∧ wq.cell? ⟨b2, o2 + k * 5 + 2, none⟩ = some (.bool x2) ∧ wq.cell? ⟨b2, o2 + k * 5 + 3, none⟩ = some (.int .i64 x3) ∧ wq.cell? ⟨b2, o2 + k * 5 + 4, none⟩ = some (.int .u64 (x4 : Nat))) ∧ wq.cell? ⟨hb0, 1, none⟩ = some (.slice (some ⟨b2, o2, none⟩) n cap) := fun {wq} hq => by
        have q1 := hq.block b hb (by simp)
        have q2 := hq.block b2 hb2 (by simp)
        have K1 : ∀ {i v}, wr.cell? ⟨b, i, none⟩ = some v → wq.cell? ⟨b, i, none⟩ = some v := fun {i v} hv => (World.cell?_of_block (w := wr) (a := ⟨b, i, none⟩) q1).trans hv
        have K2 : ∀ {i v}, wr.cell? ⟨b2, i, none⟩ = some v → wq.cell? ⟨b2, i, none⟩ = some v := fun {i v} hv => (World.cell?_of_block (w := wr) (a := ⟨b2, i, none⟩) q2).trans hv
        exact ⟨⟨K1 c0, K1 c1, K1 c2', K1 c3, K1 c4⟩, ⟨K2 d0, K2 d1, K2 d2, K2 d3, K2 d4⟩, hheap hq⟩
      have HG2 : wr.grownBy wr.drew none := grown_drew (grown_refl _ _)
      clear c0 c1 c2' c3 c4 d0 d1 d2 d3 d4 hcs hcs2 ex0 ex1 ex2 ex3 ex4 hheap
      obtain ⟨⟨c0, c1, c2', c3, c4⟩, ⟨d0, d1, d2, d3, d4⟩, d5⟩ := hcell HG2
      have hkn : (k : Int) < (n : Int) := by omega
      go_wp2
      go_region_held3 (fun wq => (wq.cell? ⟨b, o + k * 5, none⟩ = some (.int .u64 (x0 : Nat)) ∧ wq.cell? ⟨b, o + k * 5 + 1, none⟩ = some (.int .u64 (x1 : Nat)) ∧ wq.cell? ⟨b, o + k * 5 + 2, none⟩ = some (.bool x2) ∧ wq.cell? ⟨b, o + k * 5 + 3, none⟩ = some (.int .i64 x3) ∧ wq.cell? ⟨b, o + k * 5 + 4, none⟩ = some (.int .u64 (x4 : Nat))) ∧
          (wq.cell? ⟨b2, o2 + k * 5, none⟩ = some (.int .u64 (x0 : Nat)) ∧ wq.cell? ⟨b2, o2 + k * 5 + 1, none⟩ = some (.int .u64 (x1 : Nat)) ∧ wq.cell? ⟨b2, o2 + k * 5 + 2, none⟩ = some (.bool x2) ∧ wq.cell? ⟨b2, o2 + k * 5 + 3, none⟩ = some (.int .i64 x3) ∧ wq.cell? ⟨b2, o2 + k * 5 + 4, none⟩ = some (.int .u64 (x4 : Nat))) ∧ wq.cell? ⟨hb0, 1, none⟩ = some (.slice (some ⟨b2, o2, none⟩) n cap)) (exact hcell HG2)
        (first | (go_at_call 32; ((with_reducible refine (hmd _).mono ?_); rintro e w9 ⟨rfl, hg9⟩; replace HG2 := grown_trans HG2 hg9)))
      have hend := grown_trans hgk HG2
      go_wp2
      go_roundw
      case rel => exact ⟨k + 1, by omega, by go_num, hend⟩
      case measure => simp [intOf]; omega
    · obtain rfl : k = n := by omega
      go_wp2
      go_loopw [8] (fun i wr => ∃ c : Nat, c ≤ 8 ∧ i = .int .i64 c ∧ W1.grownBy wr none) (fun i _ => 8 - (intOf i).toNat)
      case atStart => exact ⟨0, Nat.zero_le _, rfl, hg⟩
      case round =>
        obtain ⟨c, hc, rfl, hgc⟩ := hrel
        rename_i wc
        by_cases hc8 : c < 8
        · have hlc := HLI.out _ c (grown_trans hg0 hgc) hc8
          have hcl := eight_at (f := fun c => .slice (va c) (ln c) (vc c)) (HBX.out _ hgc) hc8
          obtain ⟨xa, exa⟩ : ∃ x, va c = x := ⟨_, rfl⟩
          obtain ⟨xn, exn⟩ : ∃ x, ln c = x := ⟨_, rfl⟩
          obtain ⟨xc, exc⟩ : ∃ x, vc c = x := ⟨_, rfl⟩
          simp only [exa, exn, exc] at hcl
          rw [exa, exn, exc] at hlc
          have c8 : (c : Int) < 8 := by omega
          clear exa exn exc
          go_wp2_with (first | (go_at_call 33; (with_reducible refine hlc.mono ?_); rintro e w5 ⟨rfl, hg5⟩))
          go_roundw
          case rel => exact ⟨c + 1, by omega, by go_num, grown_trans hgc hg5⟩
          case measure => simp [intOf]; omega
        · obtain rfl : c = 8 := by omega
          obtain ⟨⟨q0, q1, q2, q3, q4, q5, q6, q7, q8, q9⟩, _⟩ := ten_cells (HBX.out _ hgc)
          have hf1 := HFR.out _ (grown_trans hg0 hgc)
          go_wp2_with (first | (go_at_call 35; (with_reducible refine hf1.mono ?_); rintro e w6 ⟨fv, rfl, hfo, hg6⟩; obtain ⟨fa, fc, hfe⟩ := hfo.slice; subst hfe; have ht6 := HTR.out _ fa _ fc (grown_trans hg0 (grown_trans hgc hg6)) (lie_at hfo) rfl) | (go_at_call 34; (with_reducible refine ht6.mono ?_); rintro e w7 ⟨rfl, hg7⟩))
          go_ret
          exact ⟨rfl, grown_trans hg0 (grown_trans hgc (grown_trans hg6 hg7))⟩
end
end Go.Proofs.YtoamlkljfmgomaaGreat
