/-
  Package audit: Look of a formatted segment, of one whose head isn't, and of nobody's.
  Conditions: the segment stands in memory, of 600 words.
-/
import Derived.Test.YtmcnpenihoaajaaGreatAudN
import Derived.Test.YtmcnpenihoaajaaGreatLZza
import Derived.Test.YtmcnpenihoaajaaGreatLZzb
import Derived.Deep.RegionHeld3
import Derived.Deep.RegionLaw
namespace Go.Proofs.YtmcnpenihoaajaaGreat
open Go.RowKit
set_option linter.unusedVariables false
set_option linter.unusedSimpArgs false
set_option maxRecDepth 100000
section
variable {n : Nat} {w : World} {T M : Nat} {R : Option Nat} {B D : Nat} {ws : List Nat}
theorem six_frozen {w : World} {b : Nat} {x0 x1 x2 x3 x4 x5 : Value} {t : TypeId} (h : w.heap[b]? = some (.cells #[x0, x1, x2, x3, x4, x5] t (0, 0))) : w.frozen? ⟨b, 0, none⟩ = false ∧ w.frozen? ⟨b, 1, none⟩ = false ∧ w.frozen? ⟨b, 2, none⟩ = false ∧ w.frozen? ⟨b, 3, none⟩ = false ∧ w.frozen? ⟨b, 4, none⟩ = false ∧ w.frozen? ⟨b, 5, none⟩ = false :=
  ⟨by simp [World.frozen?, h], by simp [World.frozen?, h], by simp [World.frozen?, h], by simp [World.frozen?, h], by simp [World.frozen?, h], by simp [World.frozen?, h]⟩
theorem six_put {w : World} {b : Nat} {x0 x1 x2 x3 x4 x5 y0 y1 y2 y3 y4 y5 : Value} {t : TypeId} (h : w.heap[b]? = some (.cells #[x0, x1, x2, x3, x4, x5] t (0, 0))) : ((((((w.setCell ⟨b, 0, none⟩ y0).setCell ⟨b, 1, none⟩ y1).setCell ⟨b, 2, none⟩ y2).setCell ⟨b, 3, none⟩ y3).setCell ⟨b, 4, none⟩ y4).setCell ⟨b, 5, none⟩ y5).heap[b]? = some (.cells #[y0, y1, y2, y3, y4, y5] t (0, 0)) := by
  rw [heap_setCell_same (heap_setCell_same (heap_setCell_same (heap_setCell_same (heap_setCell_same (heap_setCell_same h y0) y1) y2) y3) y4) y5]; rfl
theorem six_grown {w0 w : World} {b : Nat} {y0 y1 y2 y3 y4 y5 : Value} (h : w0.grownBy w none) (hb : w0.heap.size ≤ b) : w0.grownBy ((((((w.setCell ⟨b, 0, none⟩ y0).setCell ⟨b, 1, none⟩ y1).setCell ⟨b, 2, none⟩ y2).setCell ⟨b, 3, none⟩ y3).setCell ⟨b, 4, none⟩ y4).setCell ⟨b, 5, none⟩ y5) none :=
  grown_new (grown_trans (grown_any h _) (grown_trans (grown_set _ _ _ _) (grown_trans (grown_set _ _ _ _) (grown_trans (grown_set _ _ _ _) (grown_trans (grown_set _ _ _ _) (grown_trans (grown_set _ _ _ _) (grown_set _ _ _ _))))))) hb
set_option maxHeartbeats 1000000 in
theorem data_fr (p : Option Addr) (x s : Nat) (w : World) :
    Calls Tryz.prog 67 #[.pointer p, .agg #[.int .u64 (x : Nat), .int .u64 (s : Nat), .bool false, .int .i64 0, .int .u64 0]] w fun e w' => ∃ a c, e = .returned (.slice a 0 c) ∧ w.grownBy w' none := by
  have hb := heap_alloc_new' w (.cells #[.int .u64 (x : Nat), .int .u64 (s : Nat), .bool false, .int .i64 0, .int .u64 0] 128)
  have hg := World.grownBy_alloc w (.cells #[.int .u64 (x : Nat), .int .u64 (s : Nat), .bool false, .int .i64 0, .int .u64 0] 128) none
  obtain ⟨c0, c1, c2, c3, c4⟩ := five_cells hb
  have hw : ∀ V, Calls Tryz.prog 107 #[.int .u64 0] V fun e w' => e = .returned (.int .u64 0) ∧ V = w' := fun V => words_any 0 (by decide) V
  have hmk : ∀ V : World, (Instr.makeSlice 34 (.int .u64 0) (.int .u64 0)).run Tryz.prog V = .ok (.slice (some ⟨V.heap.size, 0, none⟩) 0 0) (V.alloc (.cells (madeCells #[.int .u64 0] 0) 22)) := fun V => make_words 0 (by decide) V
  go_enter Tryz.func67, Tryz.ntmps67
  go_wp2_with (first | (go_at_call 107; go_must ((with_reducible refine (hw _).mono ?_); rintro e w1 ⟨rfl, rfl⟩)))
  go_loopw [13] (fun i wr => i = .int .i64 0 ∧ w.grownBy wr none) (fun _ _ => 0)
  case atStart => exact ⟨rfl, grown_trans hg (World.grownBy_alloc _ _ _)⟩
  case round =>
    obtain ⟨rfl, hgr⟩ := hrel
    go_wp2
    go_ret
    exact ⟨_, _, rfl, hgr⟩
theorem info_kbm : (Tryz.prog.info? 90).map (fun i => (i.zero, i.size, i.bytes)) = some (some (.agg #[.int .u64 0, .int .u64 0, .bool false, .int .i64 0, .int .u64 0, .slice none 0 0]), 6, 64) := by kernel_rfl
theorem make_kb (w : World) : (Instr.makeSlice 37 (.int .i64 1) (.int .i64 1)).run Tryz.prog w = .ok (.slice (some ⟨w.heap.size, 0, none⟩) 1 1) (w.alloc (.cells #[.int .u64 0, .int .u64 0, .bool false, .int .i64 0, .int .u64 0, .slice none 0 0] 90)) := by
  obtain ⟨i, hi, hz, hs, hb⟩ := info_parts info_kbm
  have h := run_make (P := Tryz.prog) w 37 90 i _ Tryz.underlying37 hi hz .i64 .i64 1 1 (by omega) (Int.le_refl _) (by rw [hb]; omega) (by omega)
  rw [h, hs]
  congr 3
  apply Array.ext
  · simp [size_madeCells]
  · intro i h1 h2
    have h3 : i < 6 := by simpa using h2
    rcases (by omega : i = 0 ∨ i = 1 ∨ i = 2 ∨ i = 3 ∨ i = 4 ∨ i = 5) with rfl | rfl | rfl | rfl | rfl | rfl <;> simp [madeCells, Value.cells]
set_option maxHeartbeats 1000000 in
theorem ablocks_fr (hf : fitsP n 4800) {p la : Option Addr} {k : Nat} (hb : BlksAt w la [freeB 3776 (n - 3776)]) :
    Calls Tryz.prog 34 #[.pointer p, .slice la 1 k] w fun e w' => ∃ g a c, e = .returned (.slice (some ⟨g, 0, none⟩) 1 1) ∧ w.heap.size ≤ g ∧ w'.heap[g]? = some (.cells #[.int .u64 3776, .int .u64 (n - 3776 : Nat), .bool false, .int .i64 0, .int .u64 0, .slice a 0 c] 90 (0, 0)) ∧ w.grownBy w' none := by
  have hbl := fun (V : World) (hg : w.grownBy V none) => hb.later hg
  have HBL := Lib.hid hbl
  have hmk := make_kb
  obtain ⟨s, hs⟩ : ∃ s, n - 3776 = s := ⟨_, rfl⟩
  rw [hs] at HBL ⊢
  have hd : ∀ V : World, Calls Tryz.prog 67 #[.pointer p, .agg #[.int .u64 3776, .int .u64 s, .bool false, .int .i64 0, .int .u64 0]] V fun e w' => ∃ a c, e = .returned (.slice a 0 c) ∧ V.grownBy w' none := fun V => data_fr p 3776 s V
  clear hb hbl hf
  have hg0 := World.grownBy_alloc w (.cells #[.int .u64 0, .int .u64 0, .bool false, .int .i64 0, .int .u64 0, .slice none 0 0] 90) none
  have hk0 := heap_alloc_new' w (.cells #[.int .u64 0, .int .u64 0, .bool false, .int .i64 0, .int .u64 0, .slice none 0 0] 90)
  obtain ⟨W0, hW0⟩ : ∃ W0, w.alloc (.cells #[.int .u64 0, .int .u64 0, .bool false, .int .i64 0, .int .u64 0, .slice none 0 0] 90) = W0 := ⟨_, rfl⟩
  rw [hW0] at hg0 hk0
  go_enter Tryz.func34, Tryz.ntmps34
  go_wp2
  go_loopw [13] (fun i wr => (i = .int .i64 0 ∧ wr = W0) ∨ (i = .int .i64 1 ∧ w.grownBy wr none ∧ ∃ a c, wr.heap[w.heap.size]? = some (.cells #[.int .u64 3776, .int .u64 s, .bool false, .int .i64 0, .int .u64 0, .slice a 0 c] 90 (0, 0)))) (fun i _ => 1 - (intOf i).toNat)
  case atStart => exact .inl ⟨rfl, rfl⟩
  case round =>
    rcases hrel with ⟨rfl, hWr⟩ | ⟨rfl, hg, a, c, hk⟩
    · obtain rfl := hWr.symm
      obtain ⟨bb, off, rfl, hbb, hcs⟩ := (HBL.out W0 hg0).cells (by simp)
      obtain ⟨c0, c1, c2, c3, c4⟩ := hcs 0 (by simp)
      simp only [gO, gS, gU, gW, gN, freeB, List.getD_cons_zero, Nat.zero_mul, Nat.add_zero] at c0 c1 c2 c3 c4
      have hbx := heap_alloc_new' W0 (.cells #[.int .u64 3776, .int .u64 s, .bool false, .int .i64 0, .int .u64 0] 128)
      have hg1 := World.grownBy_alloc W0 (.cells #[.int .u64 3776, .int .u64 s, .bool false, .int .i64 0, .int .u64 0] 128) none
      obtain ⟨d0, d1, d2, d3, d4⟩ := five_cells hbx
      clear hcs
      have hz1 := hg1.size
      go_wp2
      obtain ⟨W1, hW1⟩ : ∃ W1, W0.alloc (.cells #[.int .u64 3776, .int .u64 s, .bool false, .int .i64 0, .int .u64 0] 128) = W1 := ⟨_, rfl⟩
      rw [hW1] at hbx hg1 hz1 d0 d1 d2 d3 d4 ⊢
      obtain ⟨pb, hpb⟩ : ∃ pb, W0.heap.size = pb := ⟨_, rfl⟩
      rw [hpb] at hbx d0 d1 d2 d3 d4 ⊢
      have hlt : w.heap.size < pb := by rw [← hpb]; exact lt_of_block hk0
      have hne1 : ¬ pb = w.heap.size := by omega
      have hne2 : ¬ w.heap.size = pb := by omega
      have hcell : ∀ {wq : World}, W1.grownBy wq none → wq.cell? ⟨pb, 0, none⟩ = some (.int .u64 3776) ∧ wq.cell? ⟨pb, 1, none⟩ = some (.int .u64 s) ∧ wq.cell? ⟨pb, 2, none⟩ = some (.bool false) ∧ wq.cell? ⟨pb, 3, none⟩ = some (.int .i64 0) ∧ wq.cell? ⟨pb, 4, none⟩ = some (.int .u64 0) := fun {wq} hg => five_cells ((hg.block _ (lt_of_block hbx) (by simp)).trans hbx)
      have HG : W1.grownBy W1.drew none := grown_drew (grown_refl _ _)
      obtain ⟨d0, d1, d2, d3, d4⟩ := hcell HG
      have hkk : ∀ V : World, W1.grownBy V none → V.heap[w.heap.size]? = some (.cells #[.int .u64 0, .int .u64 0, .bool false, .int .i64 0, .int .u64 0, .slice none 0 0] 90 (0, 0)) := fun V hg => ((grown_trans hg1 hg).block _ (lt_of_block hk0) (by simp)).trans hk0
      have HKK := Lib.hid hkk
      have HG1 := Lib.hid hg1
      clear hkk hbx hg1 hW1 c0 c1 c2 c3 c4
      go_region_held3 (fun w' => w'.cell? ⟨pb, 0, none⟩ = some (.int .u64 3776) ∧ w'.cell? ⟨pb, 1, none⟩ = some (.int .u64 s) ∧ w'.cell? ⟨pb, 2, none⟩ = some (.bool false) ∧ w'.cell? ⟨pb, 3, none⟩ = some (.int .i64 0) ∧ w'.cell? ⟨pb, 4, none⟩ = some (.int .u64 0)) (go_keep) (first | (go_at_call 67; (with_reducible refine (hd _).mono ?_); rintro e w3 ⟨a, c, rfl, hg3⟩; replace HG := grown_trans HG hg3; obtain ⟨d0, d1, d2, d3, d4⟩ := hcell HG; obtain ⟨k0, k1, k2, k3, k4, k5⟩ := six_cells (HKK.out _ HG); obtain ⟨z0, z1, z2, z3, z4, z5⟩ := six_frozen (HKK.out _ HG)))
      go_wp2
      go_roundw
      case rel => exact .inr ⟨by go_num, six_grown (grown_trans hg0 (grown_trans HG1.out HG)) (Nat.le_refl _), a, c, six_put (HKK.out _ HG)⟩
      case measure => simp [intOf]
    · go_wp2
      go_ret
      exact ⟨_, a, c, rfl, Nat.le_refl _, hk, hg⟩
theorem tld_of (h : Thinks w T M R B D ws []) : TLd w (some ⟨T, 0, none⟩) (txSee ws []) := fun V x hV hx => txload_any (h.later hV) x hx
theorem fr_lt (h : fitsP n 4800) (x : Nat) : frF n x < 18446744073709551616 := by
  have hs : sumN n < 18446744073709551616 := sumN_lt n
  obtain ⟨h1, h2, h3⟩ := h
  unfold frF
  repeat' split
  all_goals omega
theorem ownN_none {w : World} {base : Nat} {t : TypeId} {v : Value} (h : OwnN w base t v []) : ∃ a c, v = .slice a 0 c := by
  rcases h.2 with ⟨h1, h2⟩ | ⟨g, cap, cur, hv, rest⟩
  · exact ⟨none, 0, h1⟩
  · exact ⟨_, cap, hv⟩
theorem ownI_none {w : World} {base : Nat} {v : Value} (h : OwnI w base v []) : ∃ a c, v = .slice a 0 c := by
  rcases h.2 with ⟨h1, h2⟩ | ⟨g, cap, cur, hv, rest⟩
  · exact ⟨none, 0, h1⟩
  · exact ⟨_, cap, hv⟩
set_option maxHeartbeats 1000000 in
theorem aentries_fr (hf : fitsP n 4800) (h : Thinks w T M R B D (fmtW 600 n) []) :
    Calls Tryz.prog 35 #[.pointer (some ⟨T, 0, none⟩)] w fun e w' => e = .returned (.slice none 0 0) ∧ w.grownBy w' none := by
  have hc := call13_any (tld_of h) (by rw [see_fr hf]; exact fr_lt hf)
  rw [see_fr hf, fr_ent hf] at hc
  go_enter Tryz.func35, Tryz.ntmps35
  go_wp2_with (first
    | (go_at_call 68; go_must ((with_reducible refine hc.mono ?_); rintro e w1 ⟨v, rfl, hown, hg1⟩; obtain ⟨a, c, rfl⟩ := ownN_none hown)))
  go_loopw [9, 3] (fun i v wr => i = .int .i64 0 ∧ v = .slice none 0 0 ∧ wr = w1) (fun _ _ _ => 0)
  case atStart => exact ⟨rfl, rfl, rfl⟩
  case round =>
    obtain ⟨rfl, rfl, hWr⟩ := hrel
    obtain rfl := hWr.symm
    go_wp2_with (first
      | (go_at_call 69; go_must ((with_reducible refine (sortC_none _ _ _ _).mono ?_); rintro e w3 ⟨rfl, rfl⟩)))
    go_ret
    exact ⟨rfl, hg1⟩
/-! ### Look -/
def vw0 : Array Value := #[.int .u64 0, .slice none 0 0, .slice none 0 0, .slice none 0 0]
theorem vw_cells {b : Nat} {x0 x1 x2 x3 : Value} {t : TypeId} (h : w.heap[b]? = some (.cells #[x0, x1, x2, x3] t (0, 0))) : w.cell? ⟨b, 0, none⟩ = some x0 ∧ w.cell? ⟨b, 1, none⟩ = some x1 ∧ w.cell? ⟨b, 2, none⟩ = some x2 ∧ w.cell? ⟨b, 3, none⟩ = some x3 ∧ w.frozen? ⟨b, 0, none⟩ = false ∧ w.frozen? ⟨b, 1, none⟩ = false ∧ w.frozen? ⟨b, 2, none⟩ = false ∧ w.frozen? ⟨b, 3, none⟩ = false := by
  refine ⟨?_, ?_, ?_, ?_, ?_, ?_, ?_, ?_⟩ <;> simp [World.cell?, World.frozen?, h]
theorem vw_put {b : Nat} {x0 x1 x2 x3 y0 y1 y2 y3 : Value} {t : TypeId} (h : w.heap[b]? = some (.cells #[x0, x1, x2, x3] t (0, 0))) : ((((w.setCell ⟨b, 0, none⟩ y0).setCell ⟨b, 1, none⟩ y1).setCell ⟨b, 2, none⟩ y2).setCell ⟨b, 3, none⟩ y3).heap[b]? = some (.cells #[y0, y1, y2, y3] t (0, 0)) := by
  rw [heap_setCell_same (heap_setCell_same (heap_setCell_same (heap_setCell_same h y0) y1) y2) y3]; rfl
theorem vw_grown {w0 w : World} {b : Nat} {y0 y1 y2 y3 : Value} (h : w0.grownBy w none) (hb : w0.heap.size ≤ b) : w0.grownBy ((((w.setCell ⟨b, 0, none⟩ y0).setCell ⟨b, 1, none⟩ y1).setCell ⟨b, 2, none⟩ y2).setCell ⟨b, 3, none⟩ y3) none :=
  grown_new (grown_trans (grown_any h _) (grown_trans (grown_set _ _ _ _) (grown_trans (grown_set _ _ _ _) (grown_trans (grown_set _ _ _ _) (grown_set _ _ _ _))))) hb
theorem vw_set {w : World} {b : Nat} {y0 y1 y2 y3 : Value} : w.grownBy ((((w.setCell ⟨b, 0, none⟩ y0).setCell ⟨b, 1, none⟩ y1).setCell ⟨b, 2, none⟩ y2).setCell ⟨b, 3, none⟩ y3) (some b) :=
  grown_trans (grown_set _ _ _ _) (grown_trans (grown_set _ _ _ _) (grown_trans (grown_set _ _ _ _) (grown_set _ _ _ _)))
set_option maxHeartbeats 2000000 in
theorem look_fr (hf : fitsP n 4800) (h : IsSeg w B D (fmtW 600 n)) :
    Calls Tryz.prog 12 #[.pointer (some ⟨B, 0, none⟩)] w fun e w' => ∃ g a c la lc, e = .returned (.tuple #[.agg #[.int .u64 (n : Nat), .slice (some ⟨g, 0, none⟩) 1 1, .slice none 0 0, .slice la 0 lc], .int .i64 0]) ∧ w.heap.size ≤ g ∧ w'.heap[g]? = some (.cells #[.int .u64 3776, .int .u64 (n - 3776 : Nat), .bool false, .int .i64 0, .int .u64 0, .slice a 0 c] 90 (0, 0)) ∧ w.grownBy w' none := by
  have hg0 := World.grownBy_alloc w (.cells vw0 41) none
  have hb0 := heap_alloc_new' w (.cells vw0 41)
  unfold vw0 at hg0 hb0
  obtain ⟨W0, hW0⟩ : ∃ W0, w.alloc (.cells #[.int .u64 0, .slice none 0 0, .slice none 0 0, .slice none 0 0] 41) = W0 := ⟨_, rfl⟩
  rw [hW0] at hg0 hb0
  have ht := txnew_yes (h.later hg0)
  have HB0 := Lib.hid hb0
  have HG0 := Lib.hid hg0
  clear hb0 hg0
  go_enter Tryz.func12, Tryz.ntmps12
  go_wp2_with (first
    | (go_at_call 26; go_must ((with_reducible refine ht.mono ?_); rintro e w1 ⟨rfl, hg1, hT⟩; have hr := right_fr hf hT; have HT := Lib.hid hT))
    | (go_at_call 25; go_must ((with_reducible refine hr.mono ?_); rintro e w2 ⟨v, rfl, hown, hg2⟩; obtain ⟨la, k, rfl, hb⟩ := hown.at_; have HB := Lib.hid hb; clear hb hown; dsimp only [List.length_cons, List.length_nil]; have hsz := hsize_any (HT.out.later hg2); rw [see_fr hf, fr_16 hf] at hsz))
    | (go_at_call 33; go_must ((with_reducible refine hsz.mono ?_); rintro e w3 ⟨rfl, hg3⟩; have hG3 := grown_trans hg2 hg3; have hbl := ablocks_fr (p := some ⟨W0.heap.size + 1, 0, none⟩) (k := k) hf (HB.out.later hg3)))
    | (go_at_call 34; go_must ((with_reducible refine hbl.mono ?_); rintro e w4 ⟨g, a, c, rfl, hgw, hgb, hg4⟩; have hG4 := grown_trans hG3 hg4; have hen := aentries_fr hf (HT.out.later hG4)))
    | (go_at_call 35; go_must ((with_reducible refine hen.mono ?_); rintro e w5 ⟨rfl, hg5⟩; have hG5 := grown_trans hG4 hg5; have hli' := call_any (HT.out.later hG5) 1; rw [fr_states hf] at hli'; have hli : Calls Tryz.prog 36 #[.pointer (some ⟨W0.heap.size + 1, 0, none⟩), .int .u64 1] w5 fun e w' => ∃ v, e = .returned v ∧ OwnI w' w5.heap.size v [] ∧ w5.grownBy w' none := hli'))
    | (go_at_call 36; go_must ((with_reducible refine hli.mono ?_); rintro e w6 ⟨v, rfl, hown, hg6⟩; obtain ⟨lv, lc, rfl⟩ := ownI_none hown; have hG6 := grown_trans hg1 (grown_trans hG5 hg6); have hb6 := (hG6.block _ (lt_of_block HB0.out) (by simp)).trans HB0.out; obtain ⟨d0, d1, d2, d3, z0, z1, z2, z3⟩ := vw_cells hb6)))
  have hb7 := vw_put hb6 (y0 := .int .u64 (n : Nat)) (y1 := .slice (some ⟨g, 0, none⟩) 1 1) (y2 := .slice none 0 0) (y3 := .slice lv 0 lc)
  obtain ⟨k0, k1, k2, k3, _⟩ := vw_cells hb7
  have hl0 := lt_of_block HB0.out
  have hs3 := (grown_trans hg1 (grown_trans hg2 hg3)).size
  have hg6k := (grown_trans hg5 hg6).block g (lt_of_block hgb) (by simp)
  have hgk := (vw_set (w := w6) (b := w.heap.size) (y0 := .int .u64 (n : Nat)) (y1 := .slice (some ⟨g, 0, none⟩) 1 1) (y2 := .slice none 0 0) (y3 := .slice lv 0 lc)).block g (lt_of_block (hg6k.trans hgb)) (by intro hh; injection hh with hh; omega)
  refine bodyPost_ret (v := .tuple #[.agg #[.int .u64 (n : Nat), .slice (some ⟨g, 0, none⟩) 1 1, .slice none 0 0, .slice lv 0 lc], .int .i64 0]) (by simp [results, Tryz.results12, go_sem, k0, k1, k2, k3]) rfl ?_
  exact ⟨g, a, c, lv, lc, rfl, by have := HG0.out.size; omega, (hgk.trans hg6k).trans hgb, vw_grown (grown_trans HG0.out hG6) (Nat.le_refl _)⟩
theorem look_no (h : IsSeg w B D ws) (hc : chkN ws [] = 12) :
    Calls Tryz.prog 12 #[.pointer (some ⟨B, 0, none⟩)] w fun e w' => e = .returned (.tuple #[.agg #[.int .u64 0, .slice none 0 0, .slice none 0 0, .slice none 0 0], .int .i64 12]) ∧ w.grownBy w' none := by
  have hg0 := World.grownBy_alloc w (.cells vw0 41) none
  have hb0 := heap_alloc_new' w (.cells vw0 41)
  unfold vw0 at hg0 hb0
  obtain ⟨W0, hW0⟩ : ∃ W0, w.alloc (.cells #[.int .u64 0, .slice none 0 0, .slice none 0 0, .slice none 0 0] 41) = W0 := ⟨_, rfl⟩
  rw [hW0] at hg0 hb0
  have ht := txnew_yes (h.later hg0)
  go_enter Tryz.func12, Tryz.ntmps12
  go_wp2_with (first
    | (go_at_call 26; go_must ((with_reducible refine ht.mono ?_); rintro e w1 ⟨rfl, hg1, hT⟩; have hr := right_no hT hc))
    | (go_at_call 25; go_must ((with_reducible refine hr.mono ?_); rintro e w2 ⟨rfl, hg2⟩; have hG2 := grown_trans hg1 hg2; have hb6 := (hG2.block _ (lt_of_block hb0) (by simp)).trans hb0; obtain ⟨d0, d1, d2, d3, z0, z1, z2, z3⟩ := vw_cells hb6)))
  have hb7 := vw_put hb6 (y0 := .int .u64 0) (y1 := .slice none 0 0) (y2 := .slice none 0 0) (y3 := .slice none 0 0)
  obtain ⟨k0, k1, k2, k3, _⟩ := vw_cells hb7
  refine bodyPost_ret (v := .tuple #[.agg #[.int .u64 0, .slice none 0 0, .slice none 0 0, .slice none 0 0], .int .i64 12]) (by simp [results, Tryz.results12, go_sem, k0, k1, k2, k3]) rfl ?_
  exact ⟨rfl, vw_grown (grown_trans hg0 hG2) (Nat.le_refl _)⟩
theorem look_nil (w : World) :
    Calls Tryz.prog 12 #[.pointer none] w fun e w' => e = .returned (.tuple #[.agg #[.int .u64 0, .slice none 0 0, .slice none 0 0, .slice none 0 0], .int .i64 12]) ∧ w.grownBy w' none := by
  have hg0 := World.grownBy_alloc w (.cells vw0 41) none
  have hb0 := heap_alloc_new' w (.cells vw0 41)
  unfold vw0 at hg0 hb0
  obtain ⟨W0, hW0⟩ : ∃ W0, w.alloc (.cells #[.int .u64 0, .slice none 0 0, .slice none 0 0, .slice none 0 0] 41) = W0 := ⟨_, rfl⟩
  rw [hW0] at hg0 hb0
  have ht := fun V => txnew_nil V
  have hr := fun V => right_nil V
  go_enter Tryz.func12, Tryz.ntmps12
  go_wp2_with (first
    | (go_at_call 26; go_must ((with_reducible refine (ht _).mono ?_); rintro e w1 ⟨rfl, rfl⟩))
    | (go_at_call 25; go_must ((with_reducible refine (hr _).mono ?_); rintro e w2 ⟨rfl, hG2⟩; have hb6 := (hG2.block _ (lt_of_block hb0) (by simp)).trans hb0; obtain ⟨d0, d1, d2, d3, z0, z1, z2, z3⟩ := vw_cells hb6)))
  have hb7 := vw_put hb6 (y0 := .int .u64 0) (y1 := .slice none 0 0) (y2 := .slice none 0 0) (y3 := .slice none 0 0)
  obtain ⟨k0, k1, k2, k3, _⟩ := vw_cells hb7
  refine bodyPost_ret (v := .tuple #[.agg #[.int .u64 0, .slice none 0 0, .slice none 0 0, .slice none 0 0], .int .i64 12]) (by simp [results, Tryz.results12, go_sem, k0, k1, k2, k3]) rfl ?_
  exact ⟨rfl, vw_grown (grown_trans hg0 hG2) (Nat.le_refl _)⟩
end
end Go.Proofs.YtmcnpenihoaajaaGreat
