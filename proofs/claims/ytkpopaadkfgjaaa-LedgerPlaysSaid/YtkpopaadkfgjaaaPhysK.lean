/-
  Layer 5's plain answer Write, where a block is laid.
  Conditions: the plain Tx stands in memory; there are 131072 words at most.
-/
import Derived.Test.YtkpopaadkfgjaaaTagE
import Derived.Test.YtkpopaadkfgjaaaTagF
import Derived.Test.YtkpopaadkfgjaaaTagG
namespace Go.Proofs.Ytkpopaadkfgjaaa
open Go.RowKit
set_option linter.unusedVariables false
set_option linter.unusedSimpArgs false

/-- the three boxes that Write makes first, whatever is made behind them -/
theorem three_boxes {w w' : World} {a b c x y p q : Value} {t t2 t3 : TypeId} (hg : (((w.alloc (.cells #[x, y] t)).alloc (.cells #[a, b, c] t2)).alloc (.cells #[p, q] t3)).grownBy w' none) :
    w'.heap[w.heap.size]? = some (.cells #[x, y] t (0, 0)) ∧ w'.heap[w.heap.size + 1]? = some (.cells #[a, b, c] t2 (0, 0)) ∧ w'.heap[w.heap.size + 2]? = some (.cells #[p, q] t3 (0, 0)) := by
  have hga := World.grownBy_alloc ((w.alloc (.cells #[x, y] t)).alloc (.cells #[a, b, c] t2)) (.cells #[p, q] t3) none
  obtain ⟨h1, h2⟩ := two_first (grown_trans hga hg)
  have h3 := heap_alloc_new' ((w.alloc (.cells #[x, y] t)).alloc (.cells #[a, b, c] t2)) (.cells #[p, q] t3)
  rw [World.size_alloc, World.size_alloc] at h3
  exact ⟨h1, h2, (hg.block _ (lt_of_block h3) (by simp)).trans h3⟩
section
variable {w : World} {base : Nat} {wv pv : Value} {ws : List Nat} {l : List (Nat × Nat)}
set_option maxRecDepth 100000 in
set_option maxHeartbeats 4000000 in
theorem rtwrite_yes (h : RTx w base wv pv ws l) (hbase : base ≤ w.heap.size) (hm : ws.length ≤ 131072) (hl : l.length ≤ 1000) (hok : TxOk ws l) (hlt : ∀ x ∈ ws, x < 18446744073709551616) (off s : Nat) (u : Bool) (o : Int) (ho : off < 18446744073709551616) (hmy : mayP s u o) (hin : inP (txSee ws l 16) off s) :
    Calls Try.prog 53 #[.agg #[wv, pv], .int .u64 off, .agg #[.int .u64 s, .bool u, .int .i64 o]] w fun e w' => ∃ pv', e = .returned (.tuple #[.agg #[wv, pv'], .int .i64 0]) ∧ RTx w' base wv pv' ws (txStore ws (txStore ws l off (packN s u o)) (off + s - 8) (packN s u o)) ∧ w.grownBy w' none := by
  obtain ⟨wa, wn, wc, hwv⟩ := wv_form h.words
  subst hwv
  obtain ⟨pa, pn, pc, hpv⟩ := pv_form h.puts
  subst hpv
  have hg0 : w.grownBy (((w.alloc (.cells #[.slice wa wn wc, .slice pa pn pc] 27)).alloc (.cells #[.int .u64 s, .bool u, .int .i64 o] 78)).alloc (.cells #[.slice none 0 0, .slice none 0 0] 27)) none := grown_trans (World.grownBy_alloc _ _ _) (grown_trans (World.grownBy_alloc _ _ _) (World.grownBy_alloc _ _ _))
  obtain ⟨W0, eW0⟩ : ∃ W0, ((w.alloc (.cells #[.slice wa wn wc, .slice pa pn pc] 27)).alloc (.cells #[.int .u64 s, .bool u, .int .i64 o] 78)).alloc (.cells #[.slice none 0 0, .slice none 0 0] 27) = W0 := ⟨_, rfl⟩
  have hbx : ∀ {w' : World}, W0.grownBy w' none → w'.heap[w.heap.size]? = some (.cells #[.slice wa wn wc, .slice pa pn pc] 27 (0, 0)) ∧ w'.heap[w.heap.size + 1]? = some (.cells #[.int .u64 s, .bool u, .int .i64 o] 78 (0, 0)) ∧ w'.heap[w.heap.size + 2]? = some (.cells #[.slice none 0 0, .slice none 0 0] 27 (0, 0)) := fun {w'} hg => by
    rw [← eW0] at hg
    exact three_boxes hg
  rw [eW0] at hg0
  have hltf := txSee_lt hlt hok
  have hmay := fun w => rtmay_any s u o w
  rw [decide_eq_true hmy] at hmay
  have hin1 := fun (w1 : World) (hg : w.grownBy w1 none) => rtin_any (h.later hg) hm (by omega) (hltf 16) off s
  rw [decide_eq_true hin] at hin1
  have hpk := fun w => rtpack_any s u o w
  have hz : off + s < 18446744073709551616 ∧ 48 ≤ s := by have := hltf 16; unfold inP at hin; unfold mayP at hmy; omega
  have hp64 : packN s u o < 18446744073709551616 := by
    unfold packN
    rw [if_pos hmy]
    unfold mayP at hmy
    cases u <;> simp only [if_true, if_false, Bool.false_eq_true] <;> omega
  obtain ⟨p, hp⟩ : ∃ p, packN s u o = p := ⟨_, rfl⟩
  rw [hp] at hpk hp64 ⊢
  obtain ⟨b, hb⟩ : ∃ b, off + s - 8 = b := ⟨_, rfl⟩
  rw [hb]
  have e1 : IntKind.u64.wrap (IntKind.u64.wrap ((off : Int) + (s : Int)) - 8) = (b : Nat) := by rw [IntKind.wrap_u64, IntKind.wrap_u64]; omega
  have e2 : IntKind.u64.wrap ((off : Int) + (s : Int)) = (off : Int) + (s : Int) := by rw [IntKind.wrap_u64]; omega
  have e3 : IntKind.u64.wrap ((off : Int) + (s : Int) - 8) = (b : Nat) := by rw [IntKind.wrap_u64]; omega
  have hl1 : (txStore ws l off p).length ≤ 1000000 := by
    unfold txStore
    split
    · rw [txSet_len]; split <;> omega
    · omega
  have hs1 := fun (w1 : World) (hg : w.grownBy w1 none) => rtxstore_any (h.later hg) (Nat.le_trans hbase hg.size) hm (by omega) off p ho
  have hs2 := fun (w1 : World) (pv1 : Value) (h1 : RTx w1 base (.slice wa wn wc) pv1 ws (txStore ws l off p)) (hg : w.grownBy w1 none) => rtxstore_any h1 (Nat.le_trans hbase hg.size) hm hl1 b p (by omega)
  obtain ⟨A1, A2, A3⟩ := hbx (grown_refl W0 none)
  obtain ⟨a0, a1⟩ := two_cells A1
  obtain ⟨a2, a3, a4⟩ := tag_cells A2
  clear hmy hin hltf hlt hz hp hb A1 A2 A3
  go_enter Try.func53, Try.ntmps53
  go_wp2_with (first | (go_at_call 69; ((with_reducible refine (hmay _).mono ?_); rintro e w1 ⟨rfl, hg1⟩; obtain ⟨B1, B2, B3⟩ := hbx hg1; obtain ⟨x0, x1⟩ := two_cells B1; obtain ⟨y0, y1, y2⟩ := tag_cells B2; clear B1 B2 B3)) | (go_at_call 70; ((with_reducible refine (hin1 _ (grown_trans hg0 hg1)).mono ?_); rintro e w2 ⟨rfl, hg2⟩; have G2 := grown_trans hg1 hg2)))
  have hcell : ∀ {wr : World}, w2.grownBy wr none → (wr.cell? ⟨w.heap.size, 0, none⟩ = some (.slice wa wn wc) ∧ wr.cell? ⟨w.heap.size, 1, none⟩ = some (.slice pa pn pc)) ∧ wr.cell? ⟨w.heap.size + 1, 0, none⟩ = some (.int .u64 s) ∧ wr.cell? ⟨w.heap.size + 1, 1, none⟩ = some (.bool u) ∧ wr.cell? ⟨w.heap.size + 1, 2, none⟩ = some (.int .i64 o) := fun {wr} hg => by
    obtain ⟨B1, B2, B3⟩ := hbx (grown_trans G2 hg)
    exact ⟨two_cells B1, tag_cells B2⟩
  have hcellS : ∀ {wr : World} (x y : Value), w2.grownBy wr none → (((wr.setCell ⟨w.heap.size + 1 + 1, 0, none⟩ x).setCell ⟨w.heap.size + 1 + 1, 1, none⟩ y).cell? ⟨w.heap.size, 0, none⟩ = some (.slice wa wn wc) ∧ ((wr.setCell ⟨w.heap.size + 1 + 1, 0, none⟩ x).setCell ⟨w.heap.size + 1 + 1, 1, none⟩ y).cell? ⟨w.heap.size, 1, none⟩ = some (.slice pa pn pc)) ∧ ((wr.setCell ⟨w.heap.size + 1 + 1, 0, none⟩ x).setCell ⟨w.heap.size + 1 + 1, 1, none⟩ y).cell? ⟨w.heap.size + 1, 0, none⟩ = some (.int .u64 s) ∧ ((wr.setCell ⟨w.heap.size + 1 + 1, 0, none⟩ x).setCell ⟨w.heap.size + 1 + 1, 1, none⟩ y).cell? ⟨w.heap.size + 1, 1, none⟩ = some (.bool u) ∧ ((wr.setCell ⟨w.heap.size + 1 + 1, 0, none⟩ x).setCell ⟨w.heap.size + 1 + 1, 1, none⟩ y).cell? ⟨w.heap.size + 1, 2, none⟩ = some (.int .i64 o) := fun {wr} x y hg => by
    obtain ⟨B1, B2, B3⟩ := hbx (grown_trans G2 hg)
    have hs : wr.grownBy ((wr.setCell ⟨w.heap.size + 1 + 1, 0, none⟩ x).setCell ⟨w.heap.size + 1 + 1, 1, none⟩ y) (some (w.heap.size + 1 + 1)) := grown_trans (grown_set _ _ _ _) (grown_set _ _ _ _)
    exact ⟨two_cells ((hs.block _ (lt_of_block B1) (by simp; omega)).trans B1), tag_cells ((hs.block _ (lt_of_block B2) (by simp)).trans B2)⟩
  have HG : w2.grownBy w2.drew none := grown_drew (grown_refl _ _)
  have G0 := grown_trans hg0 G2
  clear x0 x1 y0 y1 y2 a0 a1 a2 a3 a4
  obtain ⟨⟨m0, m1⟩, n0, n1, n2⟩ := hcell HG
  go_region_held3 (fun wr => (wr.cell? ⟨w.heap.size, 0, none⟩ = some (.slice wa wn wc) ∧ wr.cell? ⟨w.heap.size, 1, none⟩ = some (.slice pa pn pc)) ∧ wr.cell? ⟨w.heap.size + 1, 0, none⟩ = some (.int .u64 s) ∧ wr.cell? ⟨w.heap.size + 1, 1, none⟩ = some (.bool u) ∧ wr.cell? ⟨w.heap.size + 1, 2, none⟩ = some (.int .i64 o)) (first | exact hcell HG | exact hcellS _ _ HG)
    (first | (go_at_call 71; ((with_reducible refine (hpk _).mono ?_); rintro e w9 ⟨rfl, hg9⟩; replace HG := grown_trans HG hg9; replace hr1 := hr1.later hg9)) | (go_at_call 71; ((with_reducible refine (hpk _).mono ?_); rintro e w9 ⟨rfl, hg9⟩; replace HG := grown_trans HG hg9)) | (go_at_call 27; ((with_reducible refine (hs1 _ (grown_trans G0 HG)).mono ?_); rintro e w9 ⟨pv1, rfl, hr1, hg9⟩; replace HG := grown_trans HG hg9)) | (go_at_call 27; ((with_reducible refine (hs2 _ _ hr1 (grown_trans G0 HG)).mono ?_); rintro e w9 ⟨pv2, rfl, hr2, hg9⟩; obtain ⟨qa, qn, qc, hq⟩ := pv_form hr2.puts; subst hq; replace HG := grown_trans HG hg9; obtain ⟨_, _, B3⟩ := hbx (grown_trans G2 HG); obtain ⟨r0, r1⟩ := two_cells B3; have fr0 : w9.frozen? ⟨w.heap.size + 2, 0, none⟩ = false := (by simp [World.frozen?, B3]); have fr1 : w9.frozen? ⟨w.heap.size + 2, 1, none⟩ = false := (by simp [World.frozen?, B3]))))
  have hs : w9.grownBy ((w9.setCell ⟨w.heap.size + 1 + 1, 0, none⟩ (.slice wa wn wc)).setCell ⟨w.heap.size + 1 + 1, 1, none⟩ (.slice qa qn qc)) (some (w.heap.size + 1 + 1)) := grown_trans (grown_set _ _ _ _) (grown_set _ _ _ _)
  obtain ⟨_, _, B3⟩ := hbx (grown_trans G2 HG)
  have hrt := hr2.other B3 hs
  have hend := grown_new (grown_trans (grown_any (grown_trans G0 HG) _) hs) (by omega)
  have B4 : ((w9.setCell ⟨w.heap.size + 1 + 1, 0, none⟩ (.slice wa wn wc)).setCell ⟨w.heap.size + 1 + 1, 1, none⟩ (.slice qa qn qc)).heap[w.heap.size + 1 + 1]? = some (.cells #[.slice wa wn wc, .slice qa qn qc] 27 (0, 0)) := by
    rw [heap_setCell_same (heap_setCell_same B3 _) _]; rfl
  obtain ⟨k0, k1⟩ := two_cells B4
  have HE := Lib.hid hrt
  clear B3 B4 hrt hs r0 r1 fr0 fr1
  go_wp2
  refine bodyPost_ret (v := .tuple #[.agg #[.slice wa wn wc, .slice qa qn qc], .int .i64 0]) (by simp [results, Try.results53, go_sem, k0, k1]) rfl ?_
  exact ⟨_, rfl, HE.out, hend⟩
end
end Go.Proofs.Ytkpopaadkfgjaaa
