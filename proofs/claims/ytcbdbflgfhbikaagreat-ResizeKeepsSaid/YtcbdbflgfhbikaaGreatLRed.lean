/-
  Texts of one layer, one behind the other: memory, contracts of the functions, and what follows of them.
  Conditions: as each theorem says.
-/
import Derived.Test.YtcbdbflgfhbikaaGreatRelK
import Derived.Test.YtcbdbflgfhbikaaGreatLRea
import Derived.Test.YtcbdbflgfhbikaaGreatLCaj
set_option linter.unusedVariables false
set_option linter.unusedSimpArgs false
namespace Go.Proofs.YtcbdbflgfhbikaaGreat
open Go.RowKit
set_option maxRecDepth 100000
theorem fr_boxes {w w1 : World} {hcs : Array Value} (hg : ((w.alloc (.cells hcs 30)).alloc (.cells hZ 30)).grownBy w1 none) : w1.heap[w.heap.size]? = some (.cells hcs 30 (0, 0)) ∧ w1.heap[w.heap.size + 1]? = some (.cells hZ 30 (0, 0)) ∧ w.grownBy w1 none := by
  have h1 : ((w.alloc (.cells hcs 30)).alloc (.cells hZ 30)).heap[w.heap.size]? = some (.cells hcs 30 (0, 0)) := (Below.heap_alloc _ _ _ (by simp)).trans (heap_alloc_new' w _)
  have h2 : ((w.alloc (.cells hcs 30)).alloc (.cells hZ 30)).heap[w.heap.size + 1]? = some (.cells hZ 30 (0, 0)) := by
    have := heap_alloc_new' (w.alloc (.cells hcs 30)) (.cells hZ 30)
    rwa [World.size_alloc] at this
  exact ⟨(hg.block _ (lt_of_block h1) (by simp)).trans h1, (hg.block _ (lt_of_block h2) (by simp)).trans h2, grown_trans (World.grownBy_alloc _ _ _) (grown_trans (World.grownBy_alloc _ _ _) hg)⟩
theorem HvIs.lie {w : World} {base E : Nat} {v : Value} {bs : List Blk} {L : Nat → List Nat} (h : HvIs w base v E bs L) : ∃ (la : Option Addr) (c : Nat) (va : Nat → Option Addr) (ln vc : Nat → Nat), v = heapV E (.slice la bs.length c) (fun c => .slice (va c) (ln c) (vc c)) ∧ BlksAt w la bs := by
  obtain ⟨b, vs, hv0, ho, hl0⟩ := h.is
  obtain ⟨va, ln, vc, hvv, hl, hln⟩ := heap_lie (E := E) (b := b) hl0
  rw [hvv] at hv0
  obtain ⟨la, c, e, hb⟩ := ho.at_
  rw [e] at hv0
  exact ⟨la, c, va, ln, vc, hv0, hb⟩
set_option maxHeartbeats 4000000 in
theorem rfree11_none {w : World} {base : Nat} {v : Value} {E : Nat} {bs : List Blk} {L : Nat → List Nat} (h : HvIs w base v E bs L) (hlen : bs.length ≤ 1000) {p : Nat} (hpl : fstN (pF p) bs = none) :
    Calls Tryz.prog 37 #[v, .int .u64 p] w fun e w' => e = .returned (.tuple #[v, .int .i64 4]) ∧ w.grownBy w' none := by
  have hplace := fun (V : World) (hg : w.grownBy V none) => rplace11_any (h.later hg) (by omega) p
  have hz : fstZ (pF p) bs = -1 := by unfold fstZ; rw [hpl]
  rw [hz] at hplace
  obtain ⟨la, c, va, ln, vc, rfl, hb⟩ := h.lie
  obtain ⟨N, hN⟩ : ∃ N, bs.length = N := ⟨_, rfl⟩
  unfold heapV at hplace ⊢
  rw [hN] at hplace ⊢
  clear hN hb h hz hpl hlen
  go_enter Tryz.func37, Tryz.ntmps37
  go_wp2_with (first
    | (go_at_call 23; ((with_reducible refine (hplace _ (grown_trans (World.grownBy_alloc _ _ _) (World.grownBy_alloc _ _ _))).mono ?_); rintro e w1 ⟨rfl, hg1⟩; obtain ⟨hx1, hr1, hG1⟩ := fr_boxes hg1; obtain ⟨⟨a0, a1, a2, a3, a4, a5, a6, a7, a8, a9⟩, _⟩ := ten_cells hx1; obtain ⟨⟨r0, r1, r2, r3, r4, r5, r6, r7, r8, r9⟩, rf⟩ := ten_cells hr1; have rf0 := rf 0 (by decide); have rf1 := rf 1 (by decide); have rf2 := rf 2 (by decide); have rf3 := rf 3 (by decide); have rf4 := rf 4 (by decide); have rf5 := rf 5 (by decide); have rf6 := rf 6 (by decide); have rf7 := rf 7 (by decide); have rf8 := rf 8 (by decide); have rf9 := rf 9 (by decide); clear rf)))
  obtain ⟨P11, Q11⟩ := put10_of (E := E) (la := la) (n := N) (c := c) (va := va) (ln := ln) (vc := vc) hr1
  obtain ⟨W11, hW11⟩ : ∃ W11, put10 w1 (w.heap.size + 1) E la N c va ln vc = W11 := ⟨_, rfl⟩
  unfold put10 at hW11 P11 Q11
  rw [hW11] at P11 Q11 ⊢
  obtain ⟨⟨b0, b1, b2, b3, b4, b5, b6, b7, b8, b9⟩, _⟩ := ten_cells P11
  refine bodyPost_ret (v := .tuple #[heapV E (.slice la N c) (fun c => .slice (va c) (ln c) (vc c)), .int .i64 4]) (by simp [results, Tryz.results37, go_sem, heapV, b0, b1, b2, b3, b4, b5, b6, b7, b8, b9]) rfl ?_
  exact ⟨rfl, grown_new (grown_trans (grown_any hG1 _) Q11) (Nat.le_succ _)⟩
set_option maxHeartbeats 4000000 in
theorem rcut11_none {w : World} {base : Nat} {v : Value} {E : Nat} {bs : List Blk} {L : Nat → List Nat} (h : HvIs w base v E bs L) (hlen : bs.length ≤ 1000) {p : Nat} (hpl : fstN (pF p) bs = none) (k : Nat) :
    Calls Tryz.prog 35 #[v, .int .u64 p, .int .u64 k] w fun e w' => e = .returned (.tuple #[v, .int .i64 4]) ∧ w.grownBy w' none := by
  have hplace := fun (V : World) (hg : w.grownBy V none) => rplace11_any (h.later hg) (by omega) p
  have hz : fstZ (pF p) bs = -1 := by unfold fstZ; rw [hpl]
  rw [hz] at hplace
  obtain ⟨la, c, va, ln, vc, rfl, hb⟩ := h.lie
  obtain ⟨N, hN⟩ : ∃ N, bs.length = N := ⟨_, rfl⟩
  unfold heapV at hplace ⊢
  rw [hN] at hplace ⊢
  clear hN hb h hz hpl hlen
  go_enter Tryz.func35, Tryz.ntmps35
  go_wp2_with (first
    | (go_at_call 23; ((with_reducible refine (hplace _ (grown_trans (World.grownBy_alloc _ _ _) (World.grownBy_alloc _ _ _))).mono ?_); rintro e w1 ⟨rfl, hg1⟩; obtain ⟨hx1, hr1, hG1⟩ := fr_boxes hg1; obtain ⟨⟨a0, a1, a2, a3, a4, a5, a6, a7, a8, a9⟩, _⟩ := ten_cells hx1; obtain ⟨⟨r0, r1, r2, r3, r4, r5, r6, r7, r8, r9⟩, rf⟩ := ten_cells hr1; have rf0 := rf 0 (by decide); have rf1 := rf 1 (by decide); have rf2 := rf 2 (by decide); have rf3 := rf 3 (by decide); have rf4 := rf 4 (by decide); have rf5 := rf 5 (by decide); have rf6 := rf 6 (by decide); have rf7 := rf 7 (by decide); have rf8 := rf 8 (by decide); have rf9 := rf 9 (by decide); clear rf)))
  obtain ⟨P11, Q11⟩ := put10_of (E := E) (la := la) (n := N) (c := c) (va := va) (ln := ln) (vc := vc) hr1
  obtain ⟨W11, hW11⟩ : ∃ W11, put10 w1 (w.heap.size + 1) E la N c va ln vc = W11 := ⟨_, rfl⟩
  unfold put10 at hW11 P11 Q11
  rw [hW11] at P11 Q11 ⊢
  obtain ⟨⟨b0, b1, b2, b3, b4, b5, b6, b7, b8, b9⟩, _⟩ := ten_cells P11
  refine bodyPost_ret (v := .tuple #[heapV E (.slice la N c) (fun c => .slice (va c) (ln c) (vc c)), .int .i64 4]) (by simp [results, Tryz.results35, go_sem, heapV, b0, b1, b2, b3, b4, b5, b6, b7, b8, b9]) rfl ?_
  exact ⟨rfl, grown_new (grown_trans (grown_any hG1 _) Q11) (Nat.le_succ _)⟩
theorem need48' (n : Nat) : 48 ≤ needOf n := by
  unfold needOf
  split <;> omega
set_option maxHeartbeats 8000000 in
theorem rcut11_few {w : World} {base : Nat} {v : Value} {E : Nat} {bs : List Blk} {L : Nat → List Nat} (h : HvIs w base v E bs L) (hlen : bs.length ≤ 1000) {p i k : Nat} (hpl : fstN (pF p) bs = some i) (hn : (bs.getD i default).n + 55 < 18446744073709551616) (hs : (bs.getD i default).s < 1000000000) (hk : k < 18446744073709551616) (hok : k % 16 = 0 ∧ needOf (bs.getD i default).n ≤ k ∧ k ≤ (bs.getD i default).s) (hf : (bs.getD i default).s < k + 48) :
    Calls Tryz.prog 35 #[v, .int .u64 p, .int .u64 k] w fun e w' => e = .returned (.tuple #[v, .int .i64 0]) ∧ w.grownBy w' none := by
  have hiN : i < bs.length := (fstN_some hpl).1
  have hplace := fun (V : World) (hg : w.grownBy V none) => rplace11_any (h.later hg) (by omega) p
  have hz : fstZ (pF p) bs = (i : Nat) := by unfold fstZ; rw [hpl]
  rw [hz] at hplace
  obtain ⟨la, c, va, ln, vc, rfl, hb⟩ := h.lie
  obtain ⟨N, hN⟩ : ∃ N, bs.length = N := ⟨_, rfl⟩
  unfold heapV at hplace ⊢
  rw [hN] at hplace ⊢
  rw [hN] at hiN
  obtain ⟨bb, off, rfl, hbb, hcs⟩ := hb.cells (by omega)
  obtain ⟨c0, c1, c2, c3, c4⟩ := hcs i (by omega)
  unfold gO at c0
  unfold gS at c1
  unfold gU at c2
  unfold gW at c3
  unfold gN at c4
  obtain ⟨q, hq⟩ : ∃ q, bs.getD i default = q := ⟨_, rfl⟩
  rw [hq] at c0 c1 c2 c3 c4 hn hs hok hf
  obtain ⟨q0, q1, q2, q3, q4⟩ := q
  simp only at c0 c1 c2 c3 c4 hn hs
  have hnd := fun V => rneed_fits q4 hn V
  have hn48 := need48' q4
  obtain ⟨nd, hnd'⟩ : ∃ nd, needOf q4 = nd := ⟨_, rfl⟩
  rw [hnd'] at hnd hn48
  have hcell : ∀ V : World, w.grownBy V none → V.cell? ⟨bb, off + i * 5, none⟩ = some (.int .u64 q0) ∧ V.cell? ⟨bb, off + i * 5 + 1, none⟩ = some (.int .u64 q1) ∧ V.cell? ⟨bb, off + i * 5 + 2, none⟩ = some (.bool q2) ∧ V.cell? ⟨bb, off + i * 5 + 3, none⟩ = some (.int .i64 q3) ∧ V.cell? ⟨bb, off + i * 5 + 4, none⟩ = some (.int .u64 q4) := fun V hg => by
    have hq := hg.block bb hbb (by simp)
    exact ⟨(World.cell?_of_block (w := w) (a := ⟨bb, off + i * 5, none⟩) hq).trans c0, (World.cell?_of_block (w := w) (a := ⟨bb, off + i * 5 + 1, none⟩) hq).trans c1, (World.cell?_of_block (w := w) (a := ⟨bb, off + i * 5 + 2, none⟩) hq).trans c2, (World.cell?_of_block (w := w) (a := ⟨bb, off + i * 5 + 3, none⟩) hq).trans c3, (World.cell?_of_block (w := w) (a := ⟨bb, off + i * 5 + 4, none⟩) hq).trans c4⟩
  have HCL := Lib.hid hcell
  have i1 : ¬ (i : Int) < 0 := by omega
  have i2 : (i : Int) < (N : Int) := by omega
  have e16 : (k : Int).tmod 16 = ((k % 16 : Nat) : Int) := by rw [Int.tmod_eq_emod_of_nonneg (by omega)]; omega
  obtain ⟨r, hr⟩ : ∃ r, k % 16 = r := ⟨_, rfl⟩
  rw [hr] at e16
  clear hcs c0 c1 c2 c3 c4 hb hN h hz hpl hlen hq hcell hn
  simp only at hok hf
  rw [hr, hnd'] at hok
  obtain ⟨o1, o2, o3⟩ := hok
  subst o1
  obtain ⟨d, hd⟩ : ∃ d, q1 - k = d := ⟨_, rfl⟩
  have ed : IntKind.u64.wrap ((q1 : Int) - (k : Int)) = (d : Nat) := by rw [IntKind.wrap_u64]; omega
  have k48 : ¬ (k : Int) < 48 := by omega
  have knd : ¬ (k : Int) < (nd : Int) := by omega
  have kq : ¬ (q1 : Int) < (k : Int) := by omega
  have d48 : (d : Int) < 48 := by omega
  simp only [show ((0 : Nat) : Int) = 0 from rfl] at e16
  clear o2 o3 hf hd hs hnd' hn48 hr hk
  go_enter Tryz.func35, Tryz.ntmps35
  go_wp2_with (first
    | (go_at_call 23; ((with_reducible refine (hplace _ (grown_trans (World.grownBy_alloc _ _ _) (World.grownBy_alloc _ _ _))).mono ?_); rintro e w1 ⟨rfl, hg1⟩; obtain ⟨hx1, hr1, hG1⟩ := fr_boxes hg1; obtain ⟨⟨_, a1, _⟩, _⟩ := ten_cells hx1; have HX1 := Lib.hid hx1; have HR1 := Lib.hid hr1; clear hx1 hr1; obtain ⟨y0, y1, y2, y3, y4⟩ := HCL.out _ hG1))
    | (go_at_call 18; ((with_reducible refine (hnd _).mono ?_); rintro e w2 ⟨rfl, rfl⟩; have ga := World.grownBy_alloc w1 (.cells #[.int .u64 q0, .int .u64 q1, .bool q2, .int .i64 q3, .int .u64 q4] 61) none; have ba := heap_alloc_new' w1 (.cells #[.int .u64 q0, .int .u64 q1, .bool q2, .int .i64 q3, .int .u64 q4] 61); obtain ⟨W2, hW2⟩ : ∃ W2, w1.alloc (.cells #[.int .u64 q0, .int .u64 q1, .bool q2, .int .i64 q3, .int .u64 q4] 61) = W2 := ⟨_, rfl⟩; obtain ⟨ub, hub⟩ : ∃ ub, w1.heap.size = ub := ⟨_, rfl⟩; rw [hW2] at ga ba ⊢; rw [hub] at ba ⊢; have hx1 := (ga.block _ (lt_of_block HX1.out) (by simp)).trans HX1.out; have hr1 := (ga.block _ (lt_of_block HR1.out) (by simp)).trans HR1.out; replace hG1 := grown_trans hG1 ga; clear hW2 hub ga a1 y0 y1 y2 y3 y4; obtain ⟨d0, d1, d2, d3, d4⟩ := five_cells ba; obtain ⟨⟨a0, a1, a2, a3, a4, a5, a6, a7, a8, a9⟩, _⟩ := ten_cells hx1; obtain ⟨⟨r0, r1, r2, r3, r4, r5, r6, r7, r8, r9⟩, rf⟩ := ten_cells hr1; have rf0 := rf 0 (by decide); have rf1 := rf 1 (by decide); have rf2 := rf 2 (by decide); have rf3 := rf 3 (by decide); have rf4 := rf 4 (by decide); have rf5 := rf 5 (by decide); have rf6 := rf 6 (by decide); have rf7 := rf 7 (by decide); have rf8 := rf 8 (by decide); have rf9 := rf 9 (by decide); clear rf)))
  obtain ⟨P11, Q11⟩ := put10_of (E := E) (la := some ⟨bb, off, none⟩) (n := N) (c := c) (va := va) (ln := ln) (vc := vc) hr1
  obtain ⟨W11, hW11⟩ : ∃ W11, put10 W2 (w.heap.size + 1) E (some ⟨bb, off, none⟩) N c va ln vc = W11 := ⟨_, rfl⟩
  unfold put10 at hW11 P11 Q11
  rw [hW11] at P11 Q11 ⊢
  obtain ⟨⟨b0, b1, b2, b3, b4, b5, b6, b7, b8, b9⟩, _⟩ := ten_cells P11
  refine bodyPost_ret (v := .tuple #[heapV E (.slice (some ⟨bb, off, none⟩) N c) (fun c => .slice (va c) (ln c) (vc c)), .int .i64 0]) (by simp [results, Tryz.results35, go_sem, heapV, b0, b1, b2, b3, b4, b5, b6, b7, b8, b9]) rfl ?_
  exact ⟨rfl, grown_new (grown_trans (grown_any hG1 _) Q11) (Nat.le_succ _)⟩
set_option maxHeartbeats 8000000 in
theorem rcut11_bad {w : World} {base : Nat} {v : Value} {E : Nat} {bs : List Blk} {L : Nat → List Nat} (h : HvIs w base v E bs L) (hlen : bs.length ≤ 1000) {p i k : Nat} (hpl : fstN (pF p) bs = some i) (hn : (bs.getD i default).n + 55 < 18446744073709551616) (hs : (bs.getD i default).s < 1000000000) (hk : k < 18446744073709551616) (hok : ¬ (k % 16 = 0 ∧ needOf (bs.getD i default).n ≤ k ∧ k ≤ (bs.getD i default).s)) :
    Calls Tryz.prog 35 #[v, .int .u64 p, .int .u64 k] w fun e w' => e = .returned (.tuple #[v, .int .i64 1]) ∧ w.grownBy w' none := by
  have hiN : i < bs.length := (fstN_some hpl).1
  have hplace := fun (V : World) (hg : w.grownBy V none) => rplace11_any (h.later hg) (by omega) p
  have hz : fstZ (pF p) bs = (i : Nat) := by unfold fstZ; rw [hpl]
  rw [hz] at hplace
  obtain ⟨la, c, va, ln, vc, rfl, hb⟩ := h.lie
  obtain ⟨N, hN⟩ : ∃ N, bs.length = N := ⟨_, rfl⟩
  unfold heapV at hplace ⊢
  rw [hN] at hplace ⊢
  rw [hN] at hiN
  obtain ⟨bb, off, rfl, hbb, hcs⟩ := hb.cells (by omega)
  obtain ⟨c0, c1, c2, c3, c4⟩ := hcs i (by omega)
  unfold gO at c0
  unfold gS at c1
  unfold gU at c2
  unfold gW at c3
  unfold gN at c4
  obtain ⟨q, hq⟩ : ∃ q, bs.getD i default = q := ⟨_, rfl⟩
  rw [hq] at c0 c1 c2 c3 c4 hn hs hok
  obtain ⟨q0, q1, q2, q3, q4⟩ := q
  simp only at c0 c1 c2 c3 c4 hn hs
  have hnd := fun V => rneed_fits q4 hn V
  have hn48 := need48' q4
  obtain ⟨nd, hnd'⟩ : ∃ nd, needOf q4 = nd := ⟨_, rfl⟩
  rw [hnd'] at hnd hn48
  have hcell : ∀ V : World, w.grownBy V none → V.cell? ⟨bb, off + i * 5, none⟩ = some (.int .u64 q0) ∧ V.cell? ⟨bb, off + i * 5 + 1, none⟩ = some (.int .u64 q1) ∧ V.cell? ⟨bb, off + i * 5 + 2, none⟩ = some (.bool q2) ∧ V.cell? ⟨bb, off + i * 5 + 3, none⟩ = some (.int .i64 q3) ∧ V.cell? ⟨bb, off + i * 5 + 4, none⟩ = some (.int .u64 q4) := fun V hg => by
    have hq := hg.block bb hbb (by simp)
    exact ⟨(World.cell?_of_block (w := w) (a := ⟨bb, off + i * 5, none⟩) hq).trans c0, (World.cell?_of_block (w := w) (a := ⟨bb, off + i * 5 + 1, none⟩) hq).trans c1, (World.cell?_of_block (w := w) (a := ⟨bb, off + i * 5 + 2, none⟩) hq).trans c2, (World.cell?_of_block (w := w) (a := ⟨bb, off + i * 5 + 3, none⟩) hq).trans c3, (World.cell?_of_block (w := w) (a := ⟨bb, off + i * 5 + 4, none⟩) hq).trans c4⟩
  have HCL := Lib.hid hcell
  have i1 : ¬ (i : Int) < 0 := by omega
  have i2 : (i : Int) < (N : Int) := by omega
  have e16 : (k : Int).tmod 16 = ((k % 16 : Nat) : Int) := by rw [Int.tmod_eq_emod_of_nonneg (by omega)]; omega
  obtain ⟨r, hr⟩ : ∃ r, k % 16 = r := ⟨_, rfl⟩
  rw [hr] at e16
  clear hcs c0 c1 c2 c3 c4 hb hN h hz hpl hlen hq hcell hn
  simp only at hok
  rw [hr, hnd'] at hok
  have hc : (¬ (r : Int) = 0 ∧ ((r : Int) != 0) = true) ∨ (r = 0 ∧ (k : Int) < 48) ∨ (r = 0 ∧ ¬ (k : Int) < 48 ∧ (k : Int) < (nd : Int)) ∨ (r = 0 ∧ ¬ (k : Int) < 48 ∧ ¬ (k : Int) < (nd : Int) ∧ (q1 : Int) < (k : Int)) := by
    by_cases h0 : r = 0
    · by_cases h1 : k < 48
      · exact .inr (.inl ⟨h0, by omega⟩)
      · by_cases h2 : k < nd
        · exact .inr (.inr (.inl ⟨h0, by omega, by omega⟩))
        · exact .inr (.inr (.inr ⟨h0, by omega, by omega, by omega⟩))
    · exact .inl ⟨by omega, by simpa using h0⟩
  clear hs hnd' hn48 hr hk hok
  rcases hc with ⟨f1, f2⟩ | ⟨rfl, f1⟩ | ⟨rfl, f1, f2⟩ | ⟨rfl, f1, f2, f3⟩
  all_goals
    try simp only [show ((0 : Nat) : Int) = 0 from rfl] at e16
    go_enter Tryz.func35, Tryz.ntmps35
    go_wp2_with (first
      | (go_at_call 23; ((with_reducible refine (hplace _ (grown_trans (World.grownBy_alloc _ _ _) (World.grownBy_alloc _ _ _))).mono ?_); rintro e w1 ⟨rfl, hg1⟩; obtain ⟨hx1, hr1, hG1⟩ := fr_boxes hg1; obtain ⟨⟨_, a1, _⟩, _⟩ := ten_cells hx1; have HX1 := Lib.hid hx1; have HR1 := Lib.hid hr1; clear hx1 hr1; obtain ⟨y0, y1, y2, y3, y4⟩ := HCL.out _ hG1))
      | (go_at_call 18; ((with_reducible refine (hnd _).mono ?_); rintro e w2 ⟨rfl, rfl⟩; have ga := World.grownBy_alloc w1 (.cells #[.int .u64 q0, .int .u64 q1, .bool q2, .int .i64 q3, .int .u64 q4] 61) none; have ba := heap_alloc_new' w1 (.cells #[.int .u64 q0, .int .u64 q1, .bool q2, .int .i64 q3, .int .u64 q4] 61); obtain ⟨W2, hW2⟩ : ∃ W2, w1.alloc (.cells #[.int .u64 q0, .int .u64 q1, .bool q2, .int .i64 q3, .int .u64 q4] 61) = W2 := ⟨_, rfl⟩; obtain ⟨ub, hub⟩ : ∃ ub, w1.heap.size = ub := ⟨_, rfl⟩; rw [hW2] at ga ba ⊢; rw [hub] at ba ⊢; have hx1 := (ga.block _ (lt_of_block HX1.out) (by simp)).trans HX1.out; have hr1 := (ga.block _ (lt_of_block HR1.out) (by simp)).trans HR1.out; replace hG1 := grown_trans hG1 ga; clear hW2 hub ga a1 y0 y1 y2 y3 y4; obtain ⟨d0, d1, d2, d3, d4⟩ := five_cells ba; obtain ⟨⟨a0, a1, a2, a3, a4, a5, a6, a7, a8, a9⟩, _⟩ := ten_cells hx1; obtain ⟨⟨r0, r1, r2, r3, r4, r5, r6, r7, r8, r9⟩, rf⟩ := ten_cells hr1; have rf0 := rf 0 (by decide); have rf1 := rf 1 (by decide); have rf2 := rf 2 (by decide); have rf3 := rf 3 (by decide); have rf4 := rf 4 (by decide); have rf5 := rf 5 (by decide); have rf6 := rf 6 (by decide); have rf7 := rf 7 (by decide); have rf8 := rf 8 (by decide); have rf9 := rf 9 (by decide); clear rf)))
    obtain ⟨P11, Q11⟩ := put10_of (E := E) (la := some ⟨bb, off, none⟩) (n := N) (c := c) (va := va) (ln := ln) (vc := vc) hr1
    obtain ⟨W11, hW11⟩ : ∃ W11, put10 W2 (w.heap.size + 1) E (some ⟨bb, off, none⟩) N c va ln vc = W11 := ⟨_, rfl⟩
    unfold put10 at hW11 P11 Q11
    rw [hW11] at P11 Q11 ⊢
    obtain ⟨⟨b0, b1, b2, b3, b4, b5, b6, b7, b8, b9⟩, _⟩ := ten_cells P11
    refine bodyPost_ret (v := .tuple #[heapV E (.slice (some ⟨bb, off, none⟩) N c) (fun c => .slice (va c) (ln c) (vc c)), .int .i64 1]) (by simp [results, Tryz.results35, go_sem, heapV, b0, b1, b2, b3, b4, b5, b6, b7, b8, b9]) rfl ?_
    exact ⟨rfl, grown_new (grown_trans (grown_any hG1 _) Q11) (Nat.le_succ _)⟩
end Go.Proofs.YtcbdbflgfhbikaaGreat
namespace Go.Proofs.YtcbdbflgfhbikaaGreat
open Go.RowKit
section
variable {f g h : Nat → Nat} {E : Nat} {bs A C : List Blk} {b : Blk} {L : Nat → List Nat}
theorem fst_amid (hT : Told f E 3776 (A ++ b :: C) E) : fstN (pO b.off) (A ++ b :: C) = some A.length := by
  have hk : A.length < (A ++ b :: C).length := by simp
  have e : (A ++ b :: C).getD A.length default = b := by rw [List.getD_eq_getElem?_getD, List.getElem?_append_right (Nat.le_refl _), Nat.sub_self]; rfl
  refine fstN_is hk (by rw [e]; exact decide_eq_true rfl) fun j hj => ?_
  have := hT.rise hj hk
  rw [e] at this
  exact decide_eq_false (by omega)
theorem after_is (hT : Told f E 3776 (A ++ b :: C) E) : besN (pO b.off) (A ++ b :: C) 1 = C.head? := by
  unfold besN
  rw [fst_amid hT]
  cases C with
  | nil => dsimp only; rw [if_neg (by simp)]; rfl
  | cons c r =>
    dsimp only
    rw [if_pos (by simp; omega), show ((A.length : Int) + 1).toNat = A.length + 1 by omega, List.getD_eq_getElem?_getD, List.getElem?_append_right (by omega), show A.length + 1 - A.length = 1 by omega]
    rfl
theorem before_is (hT : Told f E 3776 (A ++ b :: C) E) : besN (pO b.off) (A ++ b :: C) (-1) = A.getLast? := by
  unfold besN
  rw [fst_amid hT]
  rcases List.eq_nil_or_concat A with e | ⟨X, p, e⟩
  · subst e
    rfl
  · rw [List.concat_eq_append] at e
    subst e
    rw [List.getLast?_concat]
    dsimp only
    rw [if_pos (by simp; omega), show (((X ++ [p]).length : Int) + -1).toNat = X.length by simp; omega, List.getD_eq_getElem?_getD, List.append_assoc, List.getElem?_append_right (Nat.le_refl _), Nat.sub_self]
    rfl
theorem frees_amid (hu : b.u = true) : freesB (A ++ b :: C) = freesB A ++ freesB C := by
  rw [freesB_append, show freesB (b :: C) = freesB C by unfold freesB; simp [hu]]
theorem frees_behind (hT : Told f E 3776 (A ++ b :: C) E) (hE : E ≤ 4800) (hu : b.u = true) {c : Blk} {r : List Blk} (hC : C = c :: r) (hc : c.u = false) : ((freesB A ++ freesB C).filter fun a => decide (a ≠ c.off)) = freesB A ++ freesB r := by
  have hn := (hT.freeL hE).nodup
  rw [frees_amid hu] at hn
  have e : freesB C = c.off :: freesB r := by rw [hC]; unfold freesB; simp [hc]
  rw [e] at hn ⊢
  exact without_at hn
theorem frees_ahead (hT : Told f E 3776 (A ++ b :: C) E) (hE : E ≤ 4800) (hu : b.u = true) {p : Blk} {X : List Blk} (hA : A = X ++ [p]) (hp : p.u = false) : ((freesB A ++ freesB (rgtC C)).filter fun a => decide (a ≠ p.off)) = freesB X ++ freesB (rgtC C) := by
  have hn := (hT.freeL hE).nodup
  rw [frees_amid hu] at hn
  have hs : (freesB A ++ freesB (rgtC C)).Nodup := by
    rcases right_cases C with ⟨e1, _⟩ | ⟨c, r, e0, hc, e1, _⟩
    · rw [e1]; exact hn
    · rw [e1]
      have e : freesB C = [c.off] ++ freesB r := by rw [e0]; unfold freesB; simp [hc]
      rw [e] at hn
      exact hn.sublist (List.Sublist.append_left (List.sublist_append_right _ _) _)
  have e : freesB A = freesB X ++ [p.off] := by rw [hA, freesB_append]; unfold freesB; simp [hp]
  rw [e, List.append_assoc] at hs ⊢
  exact without_at hs
theorem frees_far (hT : Told f E 3776 (A ++ b :: C) E) : ∀ y ∈ freesB (lftA A) ++ freesB (rgtC C), 3776 ≤ y ∧ (y + 48 ≤ lowA A b.off ∨ lowA A b.off + (addA A + b.s + addC C) ≤ y) := fun y hy => by
  obtain ⟨X, e, h1, h2, h3⟩ := free_told hT
  have hin : ∀ x, x ∈ lftA A ∨ x ∈ rgtC C → BkIs f E x := fun x hx => hT.is x (by
    rw [e]
    rcases hx with h4 | h4
    · exact List.mem_append_left _ h4
    · exact List.mem_append_right _ (List.mem_append_right _ h4))
  rcases List.mem_append.1 hy with hy | hy
  · obtain ⟨c, hc, _, rfl⟩ := freesB_mem.1 hy
    have := (h1.within c hc).2
    have := (hin c (.inl hc)).size
    have := (hin c (.inl hc)).lo
    omega
  · obtain ⟨c, hc, _, rfl⟩ := freesB_mem.1 hy
    have := (h2.within c hc).1
    have := (hin c (.inr hc)).lo
    omega
theorem used_far (hT : Told f E 3776 (A ++ b :: C) E) (hu : b.u = true) : ∀ x ∈ usedB A ++ usedB C, 3776 ≤ x ∧ (x + 48 ≤ lowA A b.off ∨ lowA A b.off + (addA A + b.s + addC C) ≤ x) ∧ ∀ y ∈ freesB A ++ freesB C, y + 48 ≤ x ∨ x + 48 ≤ y := fun x hx => by
  obtain ⟨X, e, h1, h2, h3⟩ := free_told hT
  have hin : ∀ z, z ∈ lftA A ∨ z ∈ rgtC C → z ∈ A ++ b :: C := fun z hz => by
    rw [e]
    rcases hz with h4 | h4
    · exact List.mem_append_left _ h4
    · exact List.mem_append_right _ (List.mem_append_right _ h4)
  rw [← (free_used (A := A) (C := C)).1, ← (free_used (A := A) (C := C)).2] at hx
  have hfar : ∀ z ∈ A ++ b :: C, z.u = true → ∀ y ∈ freesB A ++ freesB C, y + 48 ≤ z.off ∨ z.off + 48 ≤ y := fun z hz hzu y hy => by
    rw [← frees_amid hu] at hy
    have hs := (hT.is z hz).size
    rcases hT.free_far hz hy with h4 | h4
    · rw [hzu] at h4; cases h4.2
    · omega
  rcases List.mem_append.1 hx with hx | hx
  · obtain ⟨c, hc, hcu, rfl⟩ := usedB_mem.1 hx
    have hi := hT.is c (hin c (.inl hc))
    have := (h1.within c hc).2
    have := hi.size
    have := hi.lo
    exact ⟨by omega, by omega, hfar c (hin c (.inl hc)) hcu⟩
  · obtain ⟨c, hc, hcu, rfl⟩ := usedB_mem.1 hx
    have hi := hT.is c (hin c (.inr hc))
    have := (h2.within c hc).1
    have := hi.lo
    exact ⟨by omega, by omega, hfar c (hin c (.inr hc)) hcu⟩
theorem frees_in (hT : Told f E 3776 (A ++ b :: C) E) : ∀ y ∈ freesB A ++ freesB C, y ∈ freesB (lftA A) ++ freesB (rgtC C) ∨ (lowA A b.off ≤ y + 8 ∧ y + 16 < lowA A b.off + (addA A + b.s + addC C)) := fun y hy => by
  obtain ⟨X, _, _, _, h3⟩ := free_told hT
  have hb := hT.is b (by simp)
  have hbs := hb.size
  rcases List.mem_append.1 hy with hy | hy
  · rcases left_cases A b.off with ⟨e1, _⟩ | ⟨Z, p, e0, hp, e1, e2, e3⟩
    · exact .inl (by rw [e1]; exact List.mem_append_left _ hy)
    · rw [e0, freesB_append] at hy
      rcases List.mem_append.1 hy with hy | hy
      · exact .inl (by rw [e1]; exact List.mem_append_left _ hy)
      · have ey : y = p.off := by
          unfold freesB at hy
          simpa [hp] using hy
        have := (hT.is p (by rw [e0]; simp)).size
        exact .inr (by omega)
  · rcases right_cases C with ⟨e1, _⟩ | ⟨c, r, e0, hc, e1, e2⟩
    · exact .inl (by rw [e1]; exact List.mem_append_right _ hy)
    · rw [e0, show c :: r = [c] ++ r from rfl, freesB_append] at hy
      rcases List.mem_append.1 hy with hy | hy
      · have ey : y = c.off := by
          unfold freesB at hy
          simpa [hc] using hy
        have hcs := (hT.is c (by rw [e0]; simp)).size
        have hco : b.off + b.s = c.off := by
          obtain ⟨m, _, e5, _, h6⟩ := told_append.1 hT
          rw [e0] at h6
          have := h6.1
          have e5' : b.off = m := e5
          omega
        exact .inr (by omega)
      · exact .inl (by rw [e1]; exact List.mem_append_right _ hy)
theorem LStay.unlink {U : List Nat} {c off : Nat} (hl : Ledg U f L) (hc : c < 8) (ho : off ∈ L c) (hg : ∀ x, g x = unlinkF f c off x) : LStay f g U := fun x h1 h2 => by
  obtain ⟨hp, hn⟩ := hl.near hc ho
  rw [hg]
  unfold unlinkF
  rw [if_neg (fun e => h1 c hc e.2), if_neg (fun e => (h2 _ (hp e.1)).1 e.2), if_neg (fun e => (h2 _ (hn e.1)).2 e.2)]
theorem own_in (hS : SoundF f E bs L) (hb : b ∈ bs) (hu : b.u = true) (ho : b.o ≠ 0) : b.o.toNat - 1 < 8 ∧ b.off ∈ L (b.o.toNat - 1) ∧ ((b.o.toNat - 1 : Nat) : Int) + 1 = b.o := by
  have hm := may_bounds (hS.told.is b hb).may
  have e : ((b.o.toNat - 1 : Nat) : Int) + 1 = b.o := by omega
  exact ⟨by omega, (hS.whose b hb hu _ (by omega)).2 e.symm, e⟩
theorem lst_other {x : Nat} (hx : x ≠ b.off) (c : Nat) : x ∈ lstB L b c ↔ x ∈ L c := by
  unfold lstB setL
  by_cases h0 : b.o = 0
  · rw [if_pos h0]
  · rw [if_neg h0]
    by_cases hc : c = b.o.toNat - 1
    · subst hc
      simp only [if_true, List.mem_filter, decide_eq_true_eq]
      exact ⟨fun h => h.1, fun h => ⟨h, hx⟩⟩
    · simp only [hc, if_false]
theorem lst_gone (hS : SoundF f E bs L) (hb : b ∈ bs) (hu : b.u = true) {c : Nat} (hc : c < 8) : b.off ∉ lstB L b c := fun h => by
  have hw := hS.whose b hb hu c hc
  unfold lstB setL at h
  by_cases h0 : b.o = 0
  · rw [if_pos h0] at h
    have := hw.1 h
    omega
  · rw [if_neg h0] at h
    by_cases hc2 : c = b.o.toNat - 1
    · simp only [hc2, if_true, List.mem_filter, decide_eq_true_eq] at h
      exact h.2 rfl
    · simp only [hc2, if_false] at h
      have := hw.1 h
      omega
theorem freed_sound (hS : SoundF f E (A ++ b :: C) L) (hu : b.u = true) (hF : HeapF g E (A ++ b :: C)) (hl : Ledg (usedB (A ++ b :: C)) g (lstB L b))
    (hst : Stay g h (lowA A b.off) (lowA A b.off + (addA A + b.s + addC C)) (freesB (lftA A) ++ freesB (rgtC C))) (e1 : h (lowA A b.off) = packN (addA A + b.s + addC C) false 0) (e2 : h (lowA A b.off + (addA A + b.s + addC C) - 8) = packN (addA A + b.s + addC C) false 0)
    (hH : Hung h ((freesB (lftA A) ++ freesB (rgtC C)) ++ [lowA A b.off])) : SoundF h E (lftA A ++ freeB (lowA A b.off) (addA A + b.s + addC C) :: rgtC C) (lstB L b) := by
  have hT := hF.told
  refine free_sound hS (free_heap hF rfl rfl hst e1 e2 hH) ?_ fun x hx hne hxu c hc => lst_other (fun e => hne (hS.told.one hx (by simp) e)) c
  have hl2 : Ledg (usedB A ++ usedB C) g (lstB L b) := hl.field fun c hc x hx => by
    have h1 := hl.on c hc x hx
    have hn : x ≠ b.off := fun e => by
      rw [e] at hx
      exact lst_gone hS (by simp) hu hc hx
    rw [usedB_append, show usedB (b :: C) = b.off :: usedB C by unfold usedB; simp [hu]] at h1
    simp only [List.mem_append, List.mem_cons] at h1 ⊢
    rcases h1 with h1 | h1 | h1
    · exact .inl h1
    · exact absurd h1 hn
    · exact .inr h1
  refine hl2.stay hst (free_al hT).2.1 (fun y hy => (frees_far hT y hy).1) fun x hx => ?_
  obtain ⟨u1, u2, u3⟩ := used_far hT hu x hx
  refine ⟨u1, u2, fun y hy => u3 y ?_⟩
  rcases List.mem_append.1 hy with h1 | h1
  · refine List.mem_append_left _ ?_
    rcases left_cases A b.off with ⟨e1, _⟩ | ⟨Z, p, e0, _, e1, _⟩
    · rw [e1] at h1; exact h1
    · rw [e1] at h1; rw [e0, freesB_append]; exact List.mem_append_left _ h1
  · refine List.mem_append_right _ ?_
    rcases right_cases C with ⟨e1, _⟩ | ⟨c, r, e0, _, e1, _⟩
    · rw [e1] at h1; exact h1
    · rw [e1] at h1; rw [e0, show c :: r = [c] ++ r from rfl, freesB_append]; exact List.mem_append_right _ h1
end
end Go.Proofs.YtcbdbflgfhbikaaGreat
