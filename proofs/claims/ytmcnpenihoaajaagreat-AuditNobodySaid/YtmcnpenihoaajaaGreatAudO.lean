/-
  Package audit: Of a model's state as it was made, and of nobody's; Same of views of one free block.
  Conditions: the state, and the blocks, stand in memory.
-/
import Derived.Test.YtmcnpenihoaajaaGreatAudV
import Derived.Test.YtmcnpenihoaajaaGreatLZzd
import Derived.Test.YtmcnpenihoaajaaGreatLZzc
namespace Go.Proofs.YtmcnpenihoaajaaGreat
open Go.RowKit
set_option linter.unusedVariables false
set_option linter.unusedSimpArgs false
set_option maxRecDepth 100000
section
variable {w : World} {g k s : Nat}
/-- One free block of so many bytes, as a model has it. -/
def One (w : World) (g s : Nat) : Prop := ∃ a c, w.cell? ⟨g, 0, none⟩ = some (.int .u64 3776) ∧ w.cell? ⟨g, 1, none⟩ = some (.int .u64 s) ∧ w.cell? ⟨g, 2, none⟩ = some (.bool false) ∧ w.cell? ⟨g, 3, none⟩ = some (.int .i64 0) ∧ w.cell? ⟨g, 4, none⟩ = some (.int .u64 0) ∧ w.cell? ⟨g, 5, none⟩ = some (.slice a 0 c) ∧ g < w.heap.size
theorem One.later {w' : World} (h : One w g s) (hg : w.grownBy w' none) : One w' g s := by
  obtain ⟨a, c, h0, h1, h2, h3, h4, h5, h6⟩ := h
  have hb := hg.block g h6 (by simp)
  exact ⟨a, c, (World.cell?_of_block (w := w) (a := ⟨g, 0, none⟩) hb).trans h0, (World.cell?_of_block (w := w) (a := ⟨g, 1, none⟩) hb).trans h1, (World.cell?_of_block (w := w) (a := ⟨g, 2, none⟩) hb).trans h2, (World.cell?_of_block (w := w) (a := ⟨g, 3, none⟩) hb).trans h3, (World.cell?_of_block (w := w) (a := ⟨g, 4, none⟩) hb).trans h4, (World.cell?_of_block (w := w) (a := ⟨g, 5, none⟩) hb).trans h5, Nat.lt_of_lt_of_le h6 hg.size⟩
theorem one_of {a : Option Addr} {c : Nat} (h : w.heap[g]? = some (.cells #[.int .u64 3776, .int .u64 s, .bool false, .int .i64 0, .int .u64 0, .slice a 0 c] 90 (0, 0))) : One w g s := by
  obtain ⟨h0, h1, h2, h3, h4, h5⟩ := six_cells h
  exact ⟨a, c, h0, h1, h2, h3, h4, h5, lt_of_block h⟩
/-! ### Of -/
theorem lay_one {n : Nat} (h : SizesOk n 4800) : Lay n [kbFree 3776 (n - 3776)] := by
  obtain ⟨h1, h2, h3, h4, h5⟩ := h
  refine ⟨⟨rfl, ?_, ?_, ?_⟩, h3⟩
  · show 0 < n - 3776; omega
  · show (n - 3776) % 16 = 0; omega
  · show 3776 + (n - 3776) = n; omega
set_option maxHeartbeats 2000000 in
theorem of_fr {n P all : Nat} {F : Nat → Prop} (hs : SizesOk n 4800) (h : Md w F P all [kbFree 3776 (n - 3776)] [] (fun _ => false)) :
    Calls Tryz.prog 13 #[.pointer (some ⟨P, 0, none⟩)] w fun e w' => ∃ g k ea ec la lc, e = .returned (.agg #[.int .u64 (n : Nat), .slice (some ⟨g, 0, none⟩) 1 k, .slice ea 0 ec, .slice la 0 lc]) ∧ w.heap.size ≤ g ∧ One w' g (n - 3776) ∧ w.grownBy w' none := by
  have hg0 := World.grownBy_alloc w (.cells vw0 41) none
  have hb0 := heap_alloc_new' w (.cells vw0 41)
  unfold vw0 at hg0 hb0
  obtain ⟨W0, hW0⟩ : ∃ W0, w.alloc (.cells #[.int .u64 0, .slice none 0 0, .slice none 0 0, .slice none 0 0] 41) = W0 := ⟨_, rfl⟩
  rw [hW0] at hg0 hb0
  have hM := h.later hg0
  have hsz := size_md hM (lay_one hs)
  have hm1 : ∀ z ∈ [kbFree 3776 (n - 3776)], z.m ≤ 1000000 := fun z hz => by
    rw [List.mem_singleton.1 hz]
    exact Nat.zero_le _
  have hbl := fun (V : World) (hg : W0.grownBy V none) => blocks_anyX (hM.later hg) (by simp) (by simp) hm1
  have hen := fun (V : World) (hg : W0.grownBy V none) => entries_any (hM.later hg) (by simp) (by simp) (fun q hq => by simp at hq)
  have hli := fun (V : World) (hg : W0.grownBy V none) => mlive_any (hM.later hg)
  simp only [show srtE [] [] = [] from rfl] at hen
  simp only [show liveL (fun _ => false) = [] by simp [liveL]] at hli
  simp only [List.length_cons, List.length_nil, Nat.zero_add] at hbl
  have HBL := Lib.hid hbl
  have HEN := Lib.hid hen
  have HLI := Lib.hid hli
  have HB0 := Lib.hid hb0
  have HG0 := Lib.hid hg0
  clear hbl hen hli hb0 hg0 hM h
  go_enter Tryz.func13, Tryz.ntmps13
  go_wp2_with (first
    | (go_at_call 37; go_must ((with_reducible refine hsz.mono ?_); rintro e w1 ⟨rfl, hg1⟩))
    | (go_at_call 38; go_must ((with_reducible refine (HBL.out _ hg1).mono ?_); rintro e w2 ⟨g, k, f, f', rfl, hkl, hrow, hgw, hcop, hg2⟩; have hG2 := grown_trans hg1 hg2))
    | (go_at_call 39; go_must ((with_reducible refine (HEN.out _ hG2).mono ?_); rintro e w3 ⟨v, rfl, hown, hg3⟩; obtain ⟨ea, ec, rfl⟩ := ownN_none hown; have hG3 := grown_trans hG2 hg3))
    | (go_at_call 40; go_must ((with_reducible refine (HLI.out _ hG3).mono ?_); rintro e w4 ⟨v, rfl, hownl, hg4⟩; obtain ⟨la, lc, rfl⟩ := ownI_none hownl; have hG4 := grown_trans hG3 hg4; have hb6 := (hG4.block _ (lt_of_block HB0.out) (by simp)).trans HB0.out; obtain ⟨d0, d1, d2, d3, z0, z1, z2, z3⟩ := vw_cells hb6)))
  have hone : One w2 g (n - 3776) := by
    have hf0 : f 0 = kbFree 3776 (n - 3776) := by
      have := klist_at (f := f) (n := 1) (j := 0) (by decide)
      rw [hkl] at this
      exact this.symm
    obtain ⟨c1, c2, c3, _⟩ := hcop 0 (by decide)
    have c3 := c3 (by decide)
    rw [hf0] at c1 c2 c3
    obtain ⟨⟨cur, q1, q2, q3⟩, _, _⟩ := hrow
    have hc : ∀ i, i < 6 → w2.cell? ⟨g, i, none⟩ = (f' 0).cel[i]? := fun i hi => by
      have := q3 0 (by decide) i hi
      rw [Nat.zero_mul, Nat.zero_add] at this
      simp only [World.cell?, q1]
      exact this
    obtain ⟨z, hz⟩ : ∃ z, f' 0 = z := ⟨_, rfl⟩
    rw [hz] at c1 c2 c3 hc
    obtain ⟨b, a, m, c, d⟩ := z
    dsimp only at c1
    subst c1
    obtain ⟨a', c', ha'⟩ := own_none c3
    simp only [kv] at ha'
    injection ha' with e1 e2 e3
    subst e2
    exact ⟨a, c, hc 0 (by decide), hc 1 (by decide), hc 2 (by decide), hc 3 (by decide), hc 4 (by decide), hc 5 (by decide), lt_of_block q1⟩
  have hl0 := lt_of_block HB0.out
  have hb7 := vw_put hb6 (y0 := .int .u64 (n : Nat)) (y1 := .slice (some ⟨g, 0, none⟩) 1 k) (y2 := .slice ea 0 ec) (y3 := .slice la 0 lc)
  obtain ⟨k0, k1, k2, k3, _⟩ := vw_cells hb7
  have hgs := hg1.size
  have hone4 := hone.later (grown_trans hg3 hg4)
  have hone7 : One ((((w4.setCell ⟨w.heap.size, 0, none⟩ (.int .u64 (n : Nat))).setCell ⟨w.heap.size, 1, none⟩ (.slice (some ⟨g, 0, none⟩) 1 k)).setCell ⟨w.heap.size, 2, none⟩ (.slice ea 0 ec)).setCell ⟨w.heap.size, 3, none⟩ (.slice la 0 lc)) g (n - 3776) := by
    have hvs := vw_set (w := w4) (b := w.heap.size) (y0 := .int .u64 (n : Nat)) (y1 := .slice (some ⟨g, 0, none⟩) 1 k) (y2 := .slice ea 0 ec) (y3 := .slice la 0 lc)
    obtain ⟨a, c, h0, h1, h2, h3, h4, h5, h6⟩ := hone4
    have hb := hvs.block g h6 (by intro hh; injection hh with hh; omega)
    exact ⟨a, c, (World.cell?_of_block (w := w4) (a := ⟨g, 0, none⟩) hb).trans h0, (World.cell?_of_block (w := w4) (a := ⟨g, 1, none⟩) hb).trans h1, (World.cell?_of_block (w := w4) (a := ⟨g, 2, none⟩) hb).trans h2, (World.cell?_of_block (w := w4) (a := ⟨g, 3, none⟩) hb).trans h3, (World.cell?_of_block (w := w4) (a := ⟨g, 4, none⟩) hb).trans h4, (World.cell?_of_block (w := w4) (a := ⟨g, 5, none⟩) hb).trans h5, Nat.lt_of_lt_of_le h6 hvs.size⟩
  refine bodyPost_ret (results_cell_row (by kernel_rfl : Tryz.f13.results = #[.cell 2 41]) _ _ w.heap.size 41 _ (0, 0) _ rfl hb7 Tryz.underlying41 rfl (by kernel_rfl)) rfl ?_
  exact ⟨g, k, ea, ec, la, lc, rfl, by have := HG0.out.size; omega, hone7, vw_grown (grown_trans HG0.out hG4) (Nat.le_refl _)⟩
theorem of_nil (w : World) :
    Calls Tryz.prog 13 #[.pointer none] w fun e w' => e = .returned (.agg #[.int .u64 0, .slice none 0 0, .slice none 0 0, .slice none 0 0]) ∧ w.grownBy w' none := by
  have hg0 := World.grownBy_alloc w (.cells vw0 41) none
  have hb0 := heap_alloc_new' w (.cells vw0 41)
  unfold vw0 at hg0 hb0
  obtain ⟨W0, hW0⟩ : ∃ W0, w.alloc (.cells #[.int .u64 0, .slice none 0 0, .slice none 0 0, .slice none 0 0] 41) = W0 := ⟨_, rfl⟩
  rw [hW0] at hg0 hb0
  obtain ⟨d0, d1, d2, d3, z0, z1, z2, z3⟩ := vw_cells hb0
  have h1 := fun V => size_nil V
  have h2 := fun V => blocks_nil V
  have h3 := fun V => entries_nil V
  have h4 := fun V => live_nil V
  go_enter Tryz.func13, Tryz.ntmps13
  go_wp2_with (first
    | (go_at_call 37; go_must ((with_reducible refine (h1 _).mono ?_); rintro e w1 ⟨rfl, rfl⟩))
    | (go_at_call 38; go_must ((with_reducible refine (h2 _).mono ?_); rintro e w1 ⟨rfl, rfl⟩))
    | (go_at_call 39; go_must ((with_reducible refine (h3 _).mono ?_); rintro e w1 ⟨rfl, rfl⟩))
    | (go_at_call 40; go_must ((with_reducible refine (h4 _).mono ?_); rintro e w1 ⟨rfl, rfl⟩)))
  have hb7 := vw_put hb0 (y0 := .int .u64 0) (y1 := .slice none 0 0) (y2 := .slice none 0 0) (y3 := .slice none 0 0)
  refine bodyPost_ret (results_cell_row (by kernel_rfl : Tryz.f13.results = #[.cell 2 41]) _ _ w.heap.size 41 _ (0, 0) _ rfl hb7 Tryz.underlying41 rfl (by kernel_rfl)) rfl ?_
  exact ⟨rfl, vw_grown hg0 (Nat.le_refl _)⟩
end
end Go.Proofs.YtmcnpenihoaajaaGreat
