/-
  Texts of one layer, one behind the other: memory, contracts of the functions, and what follows of them.
  Conditions: as each theorem says.
-/
import Derived.Test.YtcngmkfpbcemjaaGreatLRek
import Derived.Laws.StructEq
set_option linter.unusedVariables false
set_option linter.unusedSimpArgs false
namespace Go.Proofs.YtcngmkfpbcemjaaGreat
open Go.ChangeShapes Go.WideShapes Go.ChangeAt Go.RowKit
set_option maxRecDepth 100000
set_option maxHeartbeats 4000000 in
theorem rsame11_any {w : World} {base base2 : Nat} {v v2 : Value} {E : Nat} {bs : List Blk} {L L2 : Nat → List Nat} (h : HvIs w base v E bs L) (h2 : HvIs w base2 v2 E bs L2) (hn : bs.length ≤ 1000000) :
    Calls Tryz.prog 18 #[v, v2] w fun e w' => e = .returned (.bool true) ∧ w.grownBy w' none := by
  obtain ⟨b, vs, rfl, ho, hl⟩ := h.is
  obtain ⟨la, c, rfl, hb⟩ := ho.at_
  obtain ⟨b2, vs2, rfl, ho2, hl2⟩ := h2.is
  obtain ⟨la2, c2, rfl, hb2⟩ := ho2.at_
  obtain ⟨n, hn'⟩ : ∃ n, bs.length = n := ⟨_, rfl⟩
  rw [hn'] at hn ⊢
  obtain ⟨C1, hC1⟩ : ∃ C, (.cells #[.int .u64 E, .slice la n c, vs 0, vs 1, vs 2, vs 3, vs 4, vs 5, vs 6, vs 7] 30 : Obj) = C := ⟨_, rfl⟩
  obtain ⟨C2, hC2⟩ : ∃ C, (.cells #[.int .u64 E, .slice la2 n c2, vs2 0, vs2 1, vs2 2, vs2 3, vs2 4, vs2 5, vs2 6, vs2 7] 30 : Obj) = C := ⟨_, rfl⟩
  have hg0 : w.grownBy ((w.alloc C1).alloc C2) none := grown_trans (World.grownBy_alloc _ _ _) (World.grownBy_alloc _ _ _)
  have hbx : ∀ V : World, ((w.alloc C1).alloc C2).grownBy V none → V.cell? ⟨w.heap.size, 0, none⟩ = some (.int .u64 E) ∧ V.cell? ⟨w.heap.size, 1, none⟩ = some (.slice la n c) ∧ V.cell? ⟨w.heap.size + 1, 0, none⟩ = some (.int .u64 E) ∧ V.cell? ⟨w.heap.size + 1, 1, none⟩ = some (.slice la2 n c2) := fun V hg => by
    have a1 := ((grown_trans (World.grownBy_alloc _ _ none) hg).block _ (by simp) (by simp)).trans (heap_alloc_new' w C1)
    have a2 := (hg.block _ (by simp) (by simp)).trans (heap_alloc_new' (w.alloc C1) C2)
    rw [World.size_alloc, ← hC2] at a2
    rw [← hC1] at a1
    exact ⟨by simp [World.cell?, a1], by simp [World.cell?, a1], by simp [World.cell?, a2], by simp [World.cell?, a2]⟩
  have hbl := fun (V : World) (hg : w.grownBy V none) => And.intro (hb.later hg) (hb2.later hg)
  have en : ((n : Int) != (n : Int)) = false := by simp
  have eE : ((E : Int) != (E : Int)) = false := by simp
  have HN := Lib.hid hn'
  have HBL := Lib.hid hbl
  have HC1 := Lib.hid hC1
  have HC2 := Lib.hid hC2
  obtain ⟨z0, z1, z2, z3⟩ := hbx _ (grown_refl _ _)
  rw [← hC1, ← hC2] at z0 z1 z2 z3
  have HBX := Lib.hid hbx
  clear ho hl hb hn' hbl h ho2 hl2 hb2 h2 hC1 hC2 hbx
  unfold heapV
  go_enter Tryz.func18, Tryz.ntmps18
  go_wp2
  rw [HC1.out, HC2.out]
  obtain ⟨W0, hW0⟩ : ∃ W0, (w.alloc C1).alloc C2 = W0 := ⟨_, rfl⟩
  rw [hW0] at hg0 ⊢
  have HBX' := HBX.out
  rw [hW0] at HBX'
  obtain ⟨x0, x1, y0, y1⟩ := HBX' W0 (grown_refl _ _)
  have HG0 := Lib.hid hg0
  have HBX := Lib.hid HBX'
  clear HBX' hW0 hg0
  go_loopw [5] (fun i wr => ∃ k : Nat, k ≤ n ∧ i = .int .i64 k ∧ W0.grownBy wr none) (fun i _ => n - (intOf i).toNat)
  case atStart => exact ⟨0, Nat.zero_le _, rfl, grown_refl _ _⟩
  case round =>
    obtain ⟨k, hk, rfl, hgk⟩ := hrel
    rename_i wr
    obtain ⟨x0, x1, y0, y1⟩ := HBX.out wr hgk
    rcases Nat.lt_or_ge k n with h1 | h1
    · have h1' : (k : Int) < (n : Int) := by omega
      obtain ⟨hb1, hb2⟩ := HBL.out wr (grown_trans HG0.out hgk)
      obtain ⟨bb, off, rfl, hbb, hcs⟩ := hb1.cells (by rw [HN.out]; omega)
      obtain ⟨bb2, off2, rfl, hbb2, hcs2⟩ := hb2.cells (by rw [HN.out]; omega)
      have hk1 : k < bs.length := by rw [HN.out]; exact h1
      obtain ⟨q0, eq0⟩ : ∃ x, gO bs k = x := ⟨_, rfl⟩
      obtain ⟨q1, eq1⟩ : ∃ x, gS bs k = x := ⟨_, rfl⟩
      obtain ⟨q2, eq2⟩ : ∃ x, gU bs k = x := ⟨_, rfl⟩
      obtain ⟨q3, eq3⟩ : ∃ x, gW bs k = x := ⟨_, rfl⟩
      obtain ⟨q4, eq4⟩ : ∃ x, gN bs k = x := ⟨_, rfl⟩
      obtain ⟨c0, c1, c2', c3, c4⟩ := hcs k hk1
      obtain ⟨d0, d1, d2, d3, d4⟩ := hcs2 k hk1
      rw [eq0] at c0 d0
      rw [eq1] at c1 d1
      rw [eq2] at c2' d2
      rw [eq3] at c3 d3
      rw [eq4] at c4 d4
      have hcell : (wr.drew.cell? ⟨bb, off + k * 5, none⟩ = some (.int .u64 (q0 : Nat)) ∧ wr.drew.cell? ⟨bb, off + k * 5 + 1, none⟩ = some (.int .u64 (q1 : Nat)) ∧ wr.drew.cell? ⟨bb, off + k * 5 + 2, none⟩ = some (.bool q2) ∧ wr.drew.cell? ⟨bb, off + k * 5 + 3, none⟩ = some (.int .i64 q3) ∧ wr.drew.cell? ⟨bb, off + k * 5 + 4, none⟩ = some (.int .u64 (q4 : Nat))) ∧ (wr.drew.cell? ⟨bb2, off2 + k * 5, none⟩ = some (.int .u64 (q0 : Nat)) ∧ wr.drew.cell? ⟨bb2, off2 + k * 5 + 1, none⟩ = some (.int .u64 (q1 : Nat)) ∧ wr.drew.cell? ⟨bb2, off2 + k * 5 + 2, none⟩ = some (.bool q2) ∧ wr.drew.cell? ⟨bb2, off2 + k * 5 + 3, none⟩ = some (.int .i64 q3) ∧ wr.drew.cell? ⟨bb2, off2 + k * 5 + 4, none⟩ = some (.int .u64 (q4 : Nat))) ∧ wr.drew.cell? ⟨w.heap.size, 1, none⟩ = some (.slice (some ⟨bb, off, none⟩) n c) ∧ wr.drew.cell? ⟨w.heap.size + 1, 1, none⟩ = some (.slice (some ⟨bb2, off2, none⟩) n c2) := ⟨⟨c0, c1, c2', c3, c4⟩, ⟨d0, d1, d2, d3, d4⟩, x1, y1⟩
      clear hcs hcs2 hb1 hb2 eq0 eq1 eq2 eq3 eq4 hk1 c0 c1 c2' c3 c4 d0 d1 d2 d3 d4
      go_wp2
      obtain ⟨⟨c0, c1, c2', c3, c4⟩, ⟨d0, d1, d2, d3, d4⟩, e1, e2⟩ := hcell
      go_region_held3 (fun wq => (wq.cell? ⟨bb, off + k * 5, none⟩ = some (.int .u64 (q0 : Nat)) ∧ wq.cell? ⟨bb, off + k * 5 + 1, none⟩ = some (.int .u64 (q1 : Nat)) ∧ wq.cell? ⟨bb, off + k * 5 + 2, none⟩ = some (.bool q2) ∧ wq.cell? ⟨bb, off + k * 5 + 3, none⟩ = some (.int .i64 q3) ∧ wq.cell? ⟨bb, off + k * 5 + 4, none⟩ = some (.int .u64 (q4 : Nat))) ∧ (wq.cell? ⟨bb2, off2 + k * 5, none⟩ = some (.int .u64 (q0 : Nat)) ∧ wq.cell? ⟨bb2, off2 + k * 5 + 1, none⟩ = some (.int .u64 (q1 : Nat)) ∧ wq.cell? ⟨bb2, off2 + k * 5 + 2, none⟩ = some (.bool q2) ∧ wq.cell? ⟨bb2, off2 + k * 5 + 3, none⟩ = some (.int .i64 q3) ∧ wq.cell? ⟨bb2, off2 + k * 5 + 4, none⟩ = some (.int .u64 (q4 : Nat))) ∧ wq.cell? ⟨w.heap.size, 1, none⟩ = some (.slice (some ⟨bb, off, none⟩) n c) ∧ wq.cell? ⟨w.heap.size + 1, 1, none⟩ = some (.slice (some ⟨bb2, off2, none⟩) n c2)) (exact ⟨⟨c0, c1, c2', c3, c4⟩, ⟨d0, d1, d2, d3, d4⟩, e1, e2⟩) (fail)
      go_wp2
      go_roundw
      case rel => exact ⟨k + 1, by omega, by go_num, grown_drew hgk⟩
      case measure => simp [intOf]; omega
    · obtain rfl : k = n := by omega
      go_wp2
      go_ret
      exact ⟨rfl, grown_trans HG0.out hgk⟩
end Go.Proofs.YtcngmkfpbcemjaaGreat
