/-
  Texts of one layer, one behind the other: memory, contracts of the functions, and what follows of them.
  Conditions: as each theorem says.
-/
import Derived.Test.YtcbdbflgfhbikaaGreatLRsb
set_option linter.unusedVariables false
set_option linter.unusedSimpArgs false
namespace Go.Proofs.YtcbdbflgfhbikaaGreat
open Go.RowKit
set_option maxRecDepth 100000
set_option maxHeartbeats 4000000 in
theorem rresize12_none {w : World} {base : Nat} {v : Value} {E : Nat} {bs : List Blk} {L : Nat → List Nat} (h : HvIs w base v E bs L) (hlen : bs.length ≤ 1000) {p : Nat} (hpl : fstN (pF p) bs = none) (n : Nat) :
    Calls Tryz.prog 11 #[v, .int .u64 p, .int .u64 n] w fun e w' => e = .returned (.tuple #[v, .int .u64 0, .int .i64 4]) ∧ w.grownBy w' none := by
  have hplace := fun (V : World) (hg : w.grownBy V none) => rplace11_any (h.later hg) (by omega) p
  have hz : fstZ (pF p) bs = -1 := by unfold fstZ; rw [hpl]
  rw [hz] at hplace
  obtain ⟨la, c, va, ln, vc, rfl, hb⟩ := h.lie
  obtain ⟨N, hN⟩ : ∃ N, bs.length = N := ⟨_, rfl⟩
  unfold heapV at hplace ⊢
  rw [hN] at hplace ⊢
  clear hN hb h hz hpl hlen
  go_enter Tryz.func11, Tryz.ntmps11
  go_wp2_with (first
    | (go_at_call 23; ((with_reducible refine (hplace _ (grown_trans (World.grownBy_alloc _ _ _) (World.grownBy_alloc _ _ _))).mono ?_); rintro e w1 ⟨rfl, hg1⟩; obtain ⟨hx1, hr1, hG1⟩ := fr_boxes hg1; obtain ⟨⟨a0, a1, a2, a3, a4, a5, a6, a7, a8, a9⟩, _⟩ := ten_cells hx1; obtain ⟨⟨r0, r1, r2, r3, r4, r5, r6, r7, r8, r9⟩, rf⟩ := ten_cells hr1; have rf0 := rf 0 (by decide); have rf1 := rf 1 (by decide); have rf2 := rf 2 (by decide); have rf3 := rf 3 (by decide); have rf4 := rf 4 (by decide); have rf5 := rf 5 (by decide); have rf6 := rf 6 (by decide); have rf7 := rf 7 (by decide); have rf8 := rf 8 (by decide); have rf9 := rf 9 (by decide); clear rf)))
  obtain ⟨P11, Q11⟩ := put10_of (E := E) (la := la) (n := N) (c := c) (va := va) (ln := ln) (vc := vc) hr1
  obtain ⟨W11, hW11⟩ : ∃ W11, put10 w1 (w.heap.size + 1) E la N c va ln vc = W11 := ⟨_, rfl⟩
  unfold put10 at hW11 P11 Q11
  rw [hW11] at P11 Q11 ⊢
  obtain ⟨⟨b0, b1, b2, b3, b4, b5, b6, b7, b8, b9⟩, _⟩ := ten_cells P11
  refine bodyPost_ret (v := .tuple #[heapV E (.slice la N c) (fun c => .slice (va c) (ln c) (vc c)), .int .u64 0, .int .i64 4]) (by simp [results, Tryz.results11, go_sem, heapV, b0, b1, b2, b3, b4, b5, b6, b7, b8, b9]) rfl ?_
  exact ⟨rfl, grown_new (grown_trans (grown_any hG1 _) Q11) (Nat.le_succ _)⟩
set_option maxHeartbeats 4000000 in
theorem rresize12_size {w : World} {base : Nat} {v : Value} {E : Nat} {bs : List Blk} {L : Nat → List Nat} (h : HvIs w base v E bs L) (hlen : bs.length ≤ 1000) {p i : Nat} (hpl : fstN (pF p) bs = some i) {n : Nat} (hn64 : n < 18446744073709551616) (hn : 18446744073709551616 ≤ n + 55) :
    Calls Tryz.prog 11 #[v, .int .u64 p, .int .u64 n] w fun e w' => e = .returned (.tuple #[v, .int .u64 0, .int .i64 2]) ∧ w.grownBy w' none := by
  have hplace := fun (V : World) (hg : w.grownBy V none) => rplace11_any (h.later hg) (by omega) p
  have hz : fstZ (pF p) bs = (i : Nat) := by unfold fstZ; rw [hpl]
  rw [hz] at hplace
  have hnd := rneed_high n hn64 hn
  have i1 : ¬ (i : Int) < 0 := by omega
  obtain ⟨la, c, va, ln, vc, rfl, hb⟩ := h.lie
  obtain ⟨N, hN⟩ : ∃ N, bs.length = N := ⟨_, rfl⟩
  unfold heapV at hplace ⊢
  rw [hN] at hplace ⊢
  clear hN hb h hz hpl hlen hn hn64
  go_enter Tryz.func11, Tryz.ntmps11
  go_wp2_with (first
    | (go_at_call 23; ((with_reducible refine (hplace _ (grown_trans (World.grownBy_alloc _ _ _) (World.grownBy_alloc _ _ _))).mono ?_); rintro e w1 ⟨rfl, hg1⟩; obtain ⟨hx1, hr1, hG1⟩ := fr_boxes hg1; obtain ⟨⟨a0, a1, a2, a3, a4, a5, a6, a7, a8, a9⟩, _⟩ := ten_cells hx1; obtain ⟨⟨r0, r1, r2, r3, r4, r5, r6, r7, r8, r9⟩, rf⟩ := ten_cells hr1; have rf0 := rf 0 (by decide); have rf1 := rf 1 (by decide); have rf2 := rf 2 (by decide); have rf3 := rf 3 (by decide); have rf4 := rf 4 (by decide); have rf5 := rf 5 (by decide); have rf6 := rf 6 (by decide); have rf7 := rf 7 (by decide); have rf8 := rf 8 (by decide); have rf9 := rf 9 (by decide); clear rf))
    | (go_at_call 18; ((with_reducible refine (hnd _).mono ?_); rintro e w2 ⟨rfl, rfl⟩)))
  obtain ⟨P11, Q11⟩ := put10_of (E := E) (la := la) (n := N) (c := c) (va := va) (ln := ln) (vc := vc) hr1
  obtain ⟨W11, hW11⟩ : ∃ W11, put10 w1 (w.heap.size + 1) E la N c va ln vc = W11 := ⟨_, rfl⟩
  unfold put10 at hW11 P11 Q11
  rw [hW11] at P11 Q11 ⊢
  obtain ⟨⟨b0, b1, b2, b3, b4, b5, b6, b7, b8, b9⟩, _⟩ := ten_cells P11
  refine bodyPost_ret (v := .tuple #[heapV E (.slice la N c) (fun c => .slice (va c) (ln c) (vc c)), .int .u64 0, .int .i64 2]) (by simp [results, Tryz.results11, go_sem, heapV, b0, b1, b2, b3, b4, b5, b6, b7, b8, b9]) rfl ?_
  exact ⟨rfl, grown_new (grown_trans (grown_any hG1 _) Q11) (Nat.le_succ _)⟩
set_option maxHeartbeats 16000000 in
theorem rresize12_in {w : World} {R0 : Option Nat} {base K : Nat} {v : Value} {E : Nat} {A C : List Blk} {q : Blk} {L : Nat → List Nat} (h : Fine K E (A ++ q :: C) L) (hK : K ≤ 800) (hR : ∀ g, R0 = some g → g < w.heap.size) (hv : HvK w R0 base v E (A ++ q :: C) L) (hbw : base ≤ w.heap.size) {p n : Nat} (hpl : fstN (pF p) (A ++ q :: C) = some A.length) (hn : n + 55 < 18446744073709551616) (hnd' : needOf n ≤ q.s) :
    Calls Tryz.prog 11 #[v, .int .u64 p, .int .u64 n] w fun e w' => ∃ v', e = .returned (.tuple #[v', .int .u64 p, .int .i64 0]) ∧ HvK w' R0 base v' E (ctB (A ++ ⟨q.off, q.s, q.u, q.o, n⟩ :: C) p (needOf n)) L ∧ w.grownBy w' none := by
  have hfine : Fine K E (A ++ ⟨q.off, q.s, q.u, q.o, n⟩ :: C) L := h.relen (by have := need_bounds n; omega)
  have hlen := h.few
  have hk64 : needOf n < 18446744073709551616 := by have := h.is q (by simp); have := h.low; omega
  have hct := fun (V : World) (v : Value) (h2 : ∀ g, R0 = some g → g < V.heap.size) (h3 : HvK V R0 base v E (A ++ ⟨q.off, q.s, q.u, q.o, n⟩ :: C) L) (h4 : base ≤ V.heap.size) => ct_fine hfine hK h2 h3 h4 p (needOf n) hk64
  have hplace := fun (V : World) (hg : w.grownBy V none) => rplace11_any (hv.later hg).is (by omega) p
  obtain ⟨i, hi⟩ : ∃ i, A.length = i := ⟨_, rfl⟩
  have hz : fstZ (pF p) (A ++ q :: C) = (i : Nat) := by unfold fstZ; rw [hpl, hi]
  rw [hz] at hplace
  have hnd := rneed_fits n hn
  obtain ⟨nd, end'⟩ : ∃ nd, needOf n = nd := ⟨_, rfl⟩
  rw [end'] at hct hnd hnd' ⊢
  obtain ⟨la, N, c, va, ln, vc, rfl, hN⟩ := hv.lie
  have hiN : i < N := by rw [← hN, ← hi]; simp
  have hqi : (A ++ q :: C).getD i default = q := by rw [← hi, List.getD_eq_getElem?_getD, List.getElem?_append_right (Nat.le_refl _), Nat.sub_self]; rfl
  have hb : BlksAt w la (A ++ q :: C) := by
    obtain ⟨b0, vs0, e0, o0, _⟩ := hv
    have q1 := heapV_blk e0
    rw [← q1] at o0
    exact own_at o0
  obtain ⟨bb, off, rfl, hbb, hcs⟩ := hb.cells (by rw [hN]; omega)
  obtain ⟨q0, q1, q2, q3, q4⟩ := q
  simp only at hnd' hct ⊢
  have hcell : ∀ V : World, w.grownBy V none → V.cell? ⟨bb, off + i * 5 + 1, none⟩ = some (.int .u64 (q1 : Nat)) := fun V hg => by
    obtain ⟨b', off', e, _, hc'⟩ := (hb.later hg).cells (by rw [hN]; omega)
    injection e with e
    injection e with e1 e2
    subst e1 e2
    have := (hc' i (by rw [hN]; omega)).2.1
    unfold gS at this
    rw [hqi] at this
    exact this
  obtain ⟨bs2, hbs2⟩ : ∃ bs2, ctB (A ++ ⟨q0, q1, q2, q3, n⟩ :: C) p nd = bs2 := ⟨_, rfl⟩
  obtain ⟨ce, hce⟩ : ∃ ce, ctE (A ++ ⟨q0, q1, q2, q3, n⟩ :: C) p nd = ce := ⟨_, rfl⟩
  rw [hbs2] at hct ⊢
  rw [hce] at hct
  have i1 : ¬ (i : Int) < 0 := by omega
  have i2 : (i : Int) < (N : Int) := by omega
  have i3 : (nd : Int) ≤ (q1 : Int) := by omega
  have HBL := Lib.hid (fun (V : World) (hg : w.grownBy V none) => hb.later hg)
  have HN := Lib.hid hN
  have HI := Lib.hid hi
  have HQI := Lib.hid hqi
  have HV := Lib.hid hv
  have HCT := Lib.hid hct
  have HCL := Lib.hid hcell
  have HR := Lib.hid hR
  have hN0 : 0 + N ≤ 1000000 := by omega
  unfold heapV at hplace ⊢
  clear hct hN hi hqi hv hb hz hpl hcs h hfine hlen hk64 end' hcell hbs2 hce hnd' hR hn
  go_enter Tryz.func11, Tryz.ntmps11
  go_wp2_with (first
    | (go_at_call 23; ((with_reducible refine (hplace _ (grown_trans (World.grownBy_alloc _ _ _) (World.grownBy_alloc _ _ _))).mono ?_); rintro e w1 ⟨rfl, hg1⟩; obtain ⟨hx1, hr1, hG1⟩ := fr_boxes hg1; have X2 := fr_start hg1; have s1 := HCL.out _ hG1; obtain ⟨⟨x0, x1, x2, x3, x4, x5, x6, x7, x8, x9⟩, _⟩ := ten_cells hx1; obtain ⟨⟨y0, y1, y2, y3, y4, y5, y6, y7, y8, y9⟩, _⟩ := ten_cells X2.hbx))
    | (go_at_call 18; ((with_reducible refine (hnd _).mono ?_); rintro e w2 ⟨rfl, rfl⟩))
    | (at_builtin; go_must (refine wpList_append_blks X2.own (HBL.out _ X2.since) rfl HN.out hN0 X2.lo.2.2.2.2.2.2 rfl _ _ rfl rfl rfl ?_); intro v5 w5 ho5 hg5 _; have X5 := X2.row ho5 hg5; obtain ⟨g, c5, hv5, hbg, hgw, hfz, hat⟩ := ho5.spot (by rw [List.nil_append, HN.out]; omega); rw [List.nil_append, HN.out] at hv5; subst hv5; obtain ⟨z0, z1, z2, z3, z4⟩ := hat i (by rw [List.nil_append, HN.out]; exact hiN); unfold gO at z0; unfold gS at z1; unfold gU at z2; unfold gW at z3; unfold gN at z4; rw [List.nil_append, HQI.out] at z0 z1 z2 z3 z4; simp only at z0 z1 z2 z3 z4; have f5 := hfz (i * 5); have f6 := hfz (i * 5 + 1); have f7 := hfz (i * 5 + 2); have f8 := hfz (i * 5 + 3); have f9 := hfz (i * 5 + 4); have X6 := (X5.row (ownB_put (C := C) ⟨q0, q1, q2, q3, n⟩ X5.own HN.out HI.out) (put5_grown _ _ _ _ _ _ _ _)).later (World.grownBy_alloc _ (.cells #[.int .u64 q0, .int .u64 q1, .bool q2, .int .i64 q3, .int .u64 n] 61) none); have y6 := (ten_cells X6.hbx).1; have kf1 := (ten_cells X6.hbx).2 1 (by decide); have X8 := X6.heap (hcs' := hC E (some ⟨g, 0, none⟩) N c5 va ln vc) (grown_set _ _ 1 (.slice (some ⟨g, 0, none⟩) N c5)) (by rw [heap_setCell_same X6.hbx _]; rfl); obtain ⟨⟨a0, a1, a2, a3, a4, a5, a6, a7, a8, a9⟩, _⟩ := ten_cells X8.hbx; have V8 := (HV.out.later X8.since).swap (X8.own.mono (Nat.le_trans hbw X8.lo.2.2.2.2.2.1)); simp only [heapV] at V8; clear hat hfz x0 x1 x2 x3 x4 x5 x6 x7 x8 x9 s1)
    | (go_at_call 35; ((with_reducible refine (HCT.out _ _ (fun g' e => Nat.lt_of_lt_of_le (HR.out g' e) X8.since.size) V8 (Nat.le_trans hbw X8.since.size)).mono ?_); rintro e w9 ⟨v9, rfl, V9, hg9⟩; obtain ⟨l9, n9, c9, va9, ln9, vc9, hv9, _⟩ := V9.lie; subst hv9; simp only [heapV] at V9 ⊢; have ga9 := World.grownBy_alloc w9 (.cells (hC E l9 n9 c9 va9 ln9 vc9) 30) none; have X9 := X8.later (grown_trans hg9 ga9); obtain ⟨⟨k0, k1, k2, k3, k4, k5, k6, k7, k8, k9⟩, _⟩ := ten_cells (heap_alloc_new' w9 (.cells (hC E l9 n9 c9 va9 ln9 vc9) 30)); obtain ⟨⟨r0, r1, r2, r3, r4, r5, r6, r7, r8, r9⟩, rf⟩ := ten_cells X9.rbx; have rf0 := rf 0 (by decide); have rf1 := rf 1 (by decide); have rf2 := rf 2 (by decide); have rf3 := rf 3 (by decide); have rf4 := rf 4 (by decide); have rf5 := rf 5 (by decide); have rf6 := rf 6 (by decide); have rf7 := rf 7 (by decide); have rf8 := rf 8 (by decide); have rf9 := rf 9 (by decide); clear rf)))
  obtain ⟨P11, Q11⟩ := put10_of (E := E) (la := l9) (n := n9) (c := c9) (va := va9) (ln := ln9) (vc := vc9) X9.rbx
  obtain ⟨W11, hW11⟩ : ∃ W11, put10 (w9.alloc (.cells (hC E l9 n9 c9 va9 ln9 vc9) 30)) (w.heap.size + 1) E l9 n9 c9 va9 ln9 vc9 = W11 := ⟨_, rfl⟩
  unfold put10 at hW11 P11 Q11
  rw [hW11] at P11 Q11 ⊢
  obtain ⟨⟨b0, b1, b2, b3, b4, b5, b6, b7, b8, b9⟩, _⟩ := ten_cells P11
  refine bodyPost_ret (v := .tuple #[heapV E (.slice l9 n9 c9) (fun c => .slice (va9 c) (ln9 c) (vc9 c)), .int .u64 p, .int .i64 0]) (by simp [results, Tryz.results11, go_sem, heapV, b0, b1, b2, b3, b4, b5, b6, b7, b8, b9]) rfl ?_
  exact ⟨_, rfl, (V9.later ga9).other X9.rbx (by decide) (by decide) Q11, grown_new (grown_trans (grown_any X9.since _) Q11) (Nat.le_succ _)⟩
set_option maxHeartbeats 16000000 in
theorem rresize12_bad {w : World} {R0 : Option Nat} {base K : Nat} {v : Value} {E : Nat} {bs : List Blk} {L : Nat → List Nat} (h : Fine K E bs L) (hK : K ≤ 700) (hR : ∀ g, R0 = some g → g < w.heap.size) (hv : HvK w R0 base v E bs L) (hbw : base ≤ w.heap.size) {p n i : Nat} (hpl : fstN (pF p) bs = some i) (hn : n ≤ 18446744073709551560) (hnd' : gS bs i < needOf n) (hfit : fitM bs n 16 = none) :
    Calls Tryz.prog 11 #[v, .int .u64 p, .int .u64 n] w fun e w' => e = .returned (.tuple #[v, .int .u64 0, .int .i64 3]) ∧ HvK w' R0 base v E bs L ∧ w.grownBy w' none := by
  have hlen := h.few
  have hi := (pF_some hpl).1
  have hm := may_bounds (h.is _ (getB_mem hi)).1
  obtain ⟨on, hoi⟩ : ∃ on : Nat, gW bs i = (on : Int) := Int.eq_ofNat_of_zero_le hm.2.2.2.1
  have how : on ≤ 8 := by
    have := hm.2.2.2.2.1
    unfold gW at hoi
    omega
  have htk := fun (V : World) (hg : w.grownBy V none) => tk_fine (owner := on) h (by omega) (fun g e => Nat.lt_of_lt_of_le (hR g e) hg.size) (hv.later hg) (Nat.le_trans hbw hg.size) (.inl rfl : alignP 16) hn how
  have e1 : tkP bs n 16 = 0 := by unfold tkP; rw [hfit]
  have e2 : tkE bs n 16 = 3 := by unfold tkE; rw [hfit]
  rw [e1, e2] at htk
  have hplace := fun (V : World) (hg : w.grownBy V none) => rplace11_any (hv.later hg).is (by omega) p
  have hz : fstZ (pF p) bs = (i : Nat) := by unfold fstZ; rw [hpl]
  rw [hz] at hplace
  have hnd := rneed_fits n (by omega)
  obtain ⟨nd, end'⟩ : ∃ nd, needOf n = nd := ⟨_, rfl⟩
  rw [end'] at hnd hnd'
  obtain ⟨la, N, c, va, ln, vc, rfl, hN⟩ := hv.lie
  have hb : BlksAt w la bs := by
    obtain ⟨b0, vs0, e0, o0, _⟩ := hv
    have q1 := heapV_blk e0
    rw [← q1] at o0
    exact own_at o0
  obtain ⟨bb, off, rfl, hbb, hcs⟩ := hb.cells (by omega)
  obtain ⟨sz, hsz⟩ : ∃ sz, gS bs i = sz := ⟨_, rfl⟩
  have hcell : ∀ V : World, w.grownBy V none → V.cell? ⟨bb, off + i * 5 + 1, none⟩ = some (.int .u64 (sz : Nat)) ∧ V.cell? ⟨bb, off + i * 5 + 3, none⟩ = some (.int .i64 (on : Nat)) := fun V hg => by
    obtain ⟨b', off', e, _, hc'⟩ := (hb.later hg).cells (by omega)
    injection e with e
    injection e with e1 e2
    subst e1 e2
    obtain ⟨_, a1, _, a3, _⟩ := hc' i hi
    rw [hsz] at a1
    rw [hoi] at a3
    exact ⟨a1, a3⟩
  rw [hsz] at hnd'
  rw [hN] at hi
  have i1 : ¬ (i : Int) < 0 := by omega
  have i2 : (i : Int) < (N : Int) := by omega
  have i3 : ¬ (nd : Int) ≤ (sz : Int) := by omega
  have HV := Lib.hid hv
  have HCL := Lib.hid hcell
  replace htk : ∀ V : World, w.grownBy V none → Calls Tryz.prog 36 #[.agg (hC E (some ⟨bb, off, none⟩) N c va ln vc), .int .i64 on, .int .u64 n, .int .u64 16] V fun e w' => ∃ v', e = .returned (.tuple #[v', .int .u64 0, .int .i64 3]) ∧ HvK w' R0 base v' E (tkB bs on n 16) (tkL bs L on n 16) ∧ V.grownBy w' none := htk
  unfold heapV at hplace ⊢
  clear hN hv hb hz hpl hcs h hlen hcell hnd' hR hn hm hoi how hsz hfit end' hi
  go_enter Tryz.func11, Tryz.ntmps11
  go_wp2_with (first
    | (go_at_call 23; ((with_reducible refine (hplace _ (grown_trans (World.grownBy_alloc _ _ _) (World.grownBy_alloc _ _ _))).mono ?_); rintro e w1 ⟨rfl, hg1⟩; obtain ⟨hx1, hr1, hG1⟩ := fr_boxes hg1; obtain ⟨s1, s3⟩ := HCL.out _ hG1; obtain ⟨⟨x0, x1, x2, x3, x4, x5, x6, x7, x8, x9⟩, _⟩ := ten_cells hx1))
    | (go_at_call 18; ((with_reducible refine (hnd _).mono ?_); rintro e w2 ⟨rfl, rfl⟩)))
  have hcell2 : ∀ {V : World}, w1.grownBy V none → at10 w.heap.size E (some ⟨bb, off, none⟩) N c va ln vc V ∧ V.cell? ⟨bb, off + i * 5 + 3, none⟩ = some (.int .i64 on) := fun {V} hg => ⟨at10_of ((hg.block _ (lt_of_block hx1) (by simp)).trans hx1), (HCL.out _ (grown_trans hG1 hg)).2⟩
  clear x0 x1 x2 x3 x4 x5 x6 x7 x8 x9 s1 s3
  have HG : w1.grownBy w1.drew none := grown_drew (grown_refl _ _)
  obtain ⟨⟨x0, x1, x2, x3, x4, x5, x6, x7, x8, x9⟩, s3⟩ := hcell2 HG
  have hz := fun (V : World) => World.grownBy_alloc V (.cells hZ 30) none
  have HD : w1.grownBy (w1.alloc (.cells hZ 30)).drew none := grown_drew (hz w1)
  have KBD : (w1.alloc (.cells hZ 30)).drew.heap[w1.heap.size]? = some (.cells hZ 30 (0, 0)) := heap_alloc_new' w1 _
  have HZ := Lib.hid (hcell2 HD)
  have HS := Lib.hid (hcell2 HG)
  have HKD := Lib.hid KBD
  clear KBD
  go_region_held3 (fun w' => at10 w.heap.size E (some ⟨bb, off, none⟩) N c va ln vc w' ∧ w'.cell? ⟨bb, off + i * 5 + 3, none⟩ = some (.int .i64 on)) (first | (with_reducible exact hcell2 HG) | (with_reducible exact HZ.out) | (with_reducible exact HS.out)) (first
    | (go_at_call 36; ((with_reducible first | refine (htk _ (grown_trans hG1 HG)).mono ?_ | refine (htk _ (grown_trans hG1 HD)).mono ?_); rintro e w6 ⟨v6, rfl, V6, hg6⟩; obtain ⟨l6, n6, c6, va6, ln6, vc6, hv6, _⟩ := V6.lie; subst hv6; unfold heapV; (first
        | ((with_reducible replace HG := grown_trans HG hg6); have KN := heap_alloc_new' w6 (.cells hZ 30); replace HZ := Lib.hid (hcell2 (grown_trans HG (hz w6))); replace HS := Lib.hid (hcell2 (grown_trans HG (World.grownBy_alloc w6 (.cells (hC E l6 n6 c6 va6 ln6 vc6) 30) none))); obtain ⟨⟨p0, p1, p2, p3, p4, p5, p6, p7, p8, p9⟩, pf⟩ := ten_cells KN; have pf0 := pf 0 (by decide); have pf1 := pf 1 (by decide); have pf2 := pf 2 (by decide); have pf3 := pf 3 (by decide); have pf4 := pf 4 (by decide); have pf5 := pf 5 (by decide); have pf6 := pf 6 (by decide); have pf7 := pf 7 (by decide); have pf8 := pf 8 (by decide); have pf9 := pf 9 (by decide); clear pf)
        | ((with_reducible replace HG := grown_trans HD hg6); have KB := (hg6.block _ (lt_of_block HKD.out) (by simp)).trans HKD.out; have HKB := Nat.le_refl w1.heap.size; have HP := put10_of (E := E) (la := l6) (n := n6) (c := c6) (va := va6) (ln := ln6) (vc := vc6) KB; unfold put10 at HP; replace HS := Lib.hid (hcell2 (grown_new (grown_trans (grown_any HG _) HP.2) HKB)); clear HP; obtain ⟨⟨p0, p1, p2, p3, p4, p5, p6, p7, p8, p9⟩, pf⟩ := ten_cells KB; have pf0 := pf 0 (by decide); have pf1 := pf 1 (by decide); have pf2 := pf 2 (by decide); have pf3 := pf 3 (by decide); have pf4 := pf 4 (by decide); have pf5 := pf 5 (by decide); have pf6 := pf 6 (by decide); have pf7 := pf 7 (by decide); have pf8 := pf 8 (by decide); have pf9 := pf 9 (by decide); clear pf)); obtain ⟨⟨x0, x1, x2, x3, x4, x5, x6, x7, x8, x9⟩, s3⟩ := hcell2 HG)))
  all_goals
    first
      | (obtain ⟨P9, Q9⟩ := put10_of (E := E) (la := l6) (n := n6) (c := c6) (va := va6) (ln := ln6) (vc := vc6) (show w6.heap[w1.heap.size]? = some (.cells hZ 30 (0, 0)) from KB); obtain ⟨W9, hW9⟩ : ∃ W9, put10 w6 w1.heap.size E l6 n6 c6 va6 ln6 vc6 = W9 := ⟨_, rfl⟩; unfold put10 at hW9 P9 Q9; rw [hW9] at P9 Q9 ⊢; have G9 := grown_new (grown_trans (grown_any HG _) Q9) HKB; have V9 := V6.other KB (by decide) (by decide) Q9; clear hW9 Q9 KB)
      | (have P9 := heap_alloc_new' w6 (.cells (hC E l6 n6 c6 va6 ln6 vc6) 30); have G9 := grown_trans HG (World.grownBy_alloc w6 (.cells (hC E l6 n6 c6 va6 ln6 vc6) 30) none); have V9 := V6.later (World.grownBy_alloc w6 (.cells (hC E l6 n6 c6 va6 ln6 vc6) 30) none); obtain ⟨W9, hW9⟩ : ∃ W9, w6.alloc (.cells (hC E l6 n6 c6 va6 ln6 vc6) 30) = W9 := ⟨_, rfl⟩; rw [hW9] at P9 G9 V9 ⊢; clear hW9 KN)
    clear x0 x1 x2 x3 x4 x5 x6 x7 x8 x9 s3 p0 p1 p2 p3 p4 p5 p6 p7 p8 p9 pf0 pf1 pf2 pf3 pf4 pf5 pf6 pf7 pf8 pf9
    have B9 := (G9.block _ (lt_of_block hx1) (by simp)).trans hx1
    have R9 := (G9.block _ (lt_of_block hr1) (by simp)).trans hr1
    obtain ⟨⟨y0, y1, y2, y3, y4, y5, y6, y7, y8, y9⟩, _⟩ := ten_cells P9
    obtain ⟨⟨a0, a1, a2, a3, a4, a5, a6, a7, a8, a9⟩, _⟩ := ten_cells B9
    obtain ⟨⟨r0, r1, r2, r3, r4, r5, r6, r7, r8, r9⟩, rf⟩ := ten_cells R9
    have rf0 := rf 0 (by decide)
    have rf1 := rf 1 (by decide)
    have rf2 := rf 2 (by decide)
    have rf3 := rf 3 (by decide)
    have rf4 := rf 4 (by decide)
    have rf5 := rf 5 (by decide)
    have rf6 := rf 6 (by decide)
    have rf7 := rf 7 (by decide)
    have rf8 := rf 8 (by decide)
    have rf9 := rf 9 (by decide)
    clear rf
    go_wp2
    obtain ⟨P11, Q11⟩ := put10_of (E := E) (la := some ⟨bb, off, none⟩) (n := N) (c := c) (va := va) (ln := ln) (vc := vc) R9
    obtain ⟨W11, hW11⟩ : ∃ W11, put10 W9 (w.heap.size + 1) E (some ⟨bb, off, none⟩) N c va ln vc = W11 := ⟨_, rfl⟩
    unfold put10 at hW11 P11 Q11
    rw [hW11] at P11 Q11 ⊢
    obtain ⟨⟨b0, b1, b2, b3, b4, b5, b6, b7, b8, b9⟩, _⟩ := ten_cells P11
    refine bodyPost_ret (v := .tuple #[heapV E (.slice (some ⟨bb, off, none⟩) N c) (fun c => .slice (va c) (ln c) (vc c)), .int .u64 0, .int .i64 3]) (by simp [results, Tryz.results11, go_sem, heapV, b0, b1, b2, b3, b4, b5, b6, b7, b8, b9]) rfl ?_
    have G10 := grown_trans hG1 G9
    exact ⟨rfl, (HV.out.later G10).other R9 (by decide) (by decide) Q11, grown_new (grown_trans (grown_any G10 _) Q11) (Nat.le_succ _)⟩
set_option maxHeartbeats 16000000 in
theorem rresize12_out {w : World} {R0 : Option Nat} {base K : Nat} {v : Value} {E : Nat} {bs : List Blk} {L : Nat → List Nat} (h : Fine K E bs L) (hK : K ≤ 700) (hR : ∀ g, R0 = some g → g < w.heap.size) (hv : HvK w R0 base v E bs L) (hbw : base ≤ w.heap.size) {p n i : Nat} (hpl : fstN (pF p) bs = some i) (hn : n ≤ 18446744073709551560) (hnd' : gS bs i < needOf n) (hfit : fitM bs n 16 ≠ none) :
    Calls Tryz.prog 11 #[v, .int .u64 p, .int .u64 n] w fun e w' => ∃ v', e = .returned (.tuple #[v', .int .u64 (tkP bs n 16 : Nat), .int .i64 0]) ∧ HvK w' R0 base v' E (frB (tkB bs (gW bs i).toNat n 16) p) (frL (tkB bs (gW bs i).toNat n 16) (tkL bs L (gW bs i).toNat n 16) p) ∧ w.grownBy w' none := by
  have hlen := h.few
  have hi := (pF_some hpl).1
  have hm := may_bounds (h.is _ (getB_mem hi)).1
  obtain ⟨on, hoi⟩ : ∃ on : Nat, gW bs i = (on : Int) := Int.eq_ofNat_of_zero_le hm.2.2.2.1
  have how : on ≤ 8 := by
    have := hm.2.2.2.2.1
    unfold gW at hoi
    omega
  have e2 : tkE bs n 16 = 0 := by
    unfold tkE
    cases hq : fitM bs n 16 with
    | none => exact absurd hq hfit
    | some _ => rfl
  have htk := fun (V : World) (hg : w.grownBy V none) => tk_fine (owner := on) h (by omega) (fun g e => Nat.lt_of_lt_of_le (hR g e) hg.size) (hv.later hg) (Nat.le_trans hbw hg.size) (.inl rfl : alignP 16) hn how
  rw [e2] at htk
  have hfr := fun (V : World) (v : Value) (hg : w.grownBy V none) (hv : HvK V R0 base v E (tkB bs on n 16) (tkL bs L on n 16)) => fr_fine (h.take how) (by omega) (fun g e => Nat.lt_of_lt_of_le (hR g e) hg.size) hv (Nat.le_trans hbw hg.size) p
  rw [hoi, Int.toNat_natCast]
  obtain ⟨P, hP⟩ : ∃ P, tkP bs n 16 = P := ⟨_, rfl⟩
  rw [hP] at htk ⊢
  obtain ⟨bs2, hbs2⟩ : ∃ x, tkB bs on n 16 = x := ⟨_, rfl⟩
  obtain ⟨L2, hL2⟩ : ∃ x, tkL bs L on n 16 = x := ⟨_, rfl⟩
  rw [hbs2, hL2] at htk hfr ⊢
  obtain ⟨bs3, hbs3⟩ : ∃ x, frB bs2 p = x := ⟨_, rfl⟩
  obtain ⟨L3, hL3⟩ : ∃ x, frL bs2 L2 p = x := ⟨_, rfl⟩
  obtain ⟨fe, hfe⟩ : ∃ x, frE bs2 p = x := ⟨_, rfl⟩
  rw [hbs3, hL3] at hfr ⊢
  rw [hfe] at hfr
  clear hP hbs2 hL2 hbs3 hL3 hfe
  have hplace := fun (V : World) (hg : w.grownBy V none) => rplace11_any (hv.later hg).is (by omega) p
  have hz : fstZ (pF p) bs = (i : Nat) := by unfold fstZ; rw [hpl]
  rw [hz] at hplace
  have hnd := rneed_fits n (by omega)
  obtain ⟨nd, end'⟩ : ∃ nd, needOf n = nd := ⟨_, rfl⟩
  rw [end'] at hnd hnd'
  obtain ⟨la, N, c, va, ln, vc, rfl, hN⟩ := hv.lie
  have hb : BlksAt w la bs := by
    obtain ⟨b0, vs0, e0, o0, _⟩ := hv
    have q1 := heapV_blk e0
    rw [← q1] at o0
    exact own_at o0
  obtain ⟨bb, off, rfl, hbb, hcs⟩ := hb.cells (by omega)
  obtain ⟨sz, hsz⟩ : ∃ sz, gS bs i = sz := ⟨_, rfl⟩
  have hcell : ∀ V : World, w.grownBy V none → V.cell? ⟨bb, off + i * 5 + 1, none⟩ = some (.int .u64 (sz : Nat)) ∧ V.cell? ⟨bb, off + i * 5 + 3, none⟩ = some (.int .i64 (on : Nat)) := fun V hg => by
    obtain ⟨b', off', e, _, hc'⟩ := (hb.later hg).cells (by omega)
    injection e with e
    injection e with e1 e2
    subst e1 e2
    obtain ⟨_, a1, _, a3, _⟩ := hc' i hi
    rw [hsz] at a1
    rw [hoi] at a3
    exact ⟨a1, a3⟩
  rw [hsz] at hnd'
  rw [hN] at hi
  have i1 : ¬ (i : Int) < 0 := by omega
  have i2 : (i : Int) < (N : Int) := by omega
  have i3 : ¬ (nd : Int) ≤ (sz : Int) := by omega
  have HV := Lib.hid hv
  have HCL := Lib.hid hcell
  replace htk : ∀ V : World, w.grownBy V none → Calls Tryz.prog 36 #[.agg (hC E (some ⟨bb, off, none⟩) N c va ln vc), .int .i64 on, .int .u64 n, .int .u64 16] V fun e w' => ∃ v', e = .returned (.tuple #[v', .int .u64 P, .int .i64 0]) ∧ HvK w' R0 base v' E bs2 L2 ∧ V.grownBy w' none := htk
  unfold heapV at hplace ⊢
  clear hN hv hb hz hpl hcs h hlen hcell hnd' hR hn hm hoi how hsz hfit end' hi
  go_enter Tryz.func11, Tryz.ntmps11
  go_wp2_with (first
    | (go_at_call 23; ((with_reducible refine (hplace _ (grown_trans (World.grownBy_alloc _ _ _) (World.grownBy_alloc _ _ _))).mono ?_); rintro e w1 ⟨rfl, hg1⟩; obtain ⟨hx1, hr1, hG1⟩ := fr_boxes hg1; obtain ⟨s1, s3⟩ := HCL.out _ hG1; obtain ⟨⟨x0, x1, x2, x3, x4, x5, x6, x7, x8, x9⟩, _⟩ := ten_cells hx1))
    | (go_at_call 18; ((with_reducible refine (hnd _).mono ?_); rintro e w2 ⟨rfl, rfl⟩)))
  have hcell2 : ∀ {V : World}, w1.grownBy V none → at10 w.heap.size E (some ⟨bb, off, none⟩) N c va ln vc V ∧ V.cell? ⟨bb, off + i * 5 + 3, none⟩ = some (.int .i64 on) := fun {V} hg => ⟨at10_of ((hg.block _ (lt_of_block hx1) (by simp)).trans hx1), (HCL.out _ (grown_trans hG1 hg)).2⟩
  clear x0 x1 x2 x3 x4 x5 x6 x7 x8 x9 s1 s3
  have HG : w1.grownBy w1.drew none := grown_drew (grown_refl _ _)
  obtain ⟨⟨x0, x1, x2, x3, x4, x5, x6, x7, x8, x9⟩, s3⟩ := hcell2 HG
  have hz := fun (V : World) => World.grownBy_alloc V (.cells hZ 30) none
  have HD : w1.grownBy (w1.alloc (.cells hZ 30)).drew none := grown_drew (hz w1)
  have KBD : (w1.alloc (.cells hZ 30)).drew.heap[w1.heap.size]? = some (.cells hZ 30 (0, 0)) := heap_alloc_new' w1 _
  have HZ := Lib.hid (hcell2 HD)
  have HS := Lib.hid (hcell2 HG)
  have HKD := Lib.hid KBD
  clear KBD
  go_region_held3 (fun w' => at10 w.heap.size E (some ⟨bb, off, none⟩) N c va ln vc w' ∧ w'.cell? ⟨bb, off + i * 5 + 3, none⟩ = some (.int .i64 on)) (first | (with_reducible exact hcell2 HG) | (with_reducible exact HZ.out) | (with_reducible exact HS.out)) (first
    | (go_at_call 36; ((with_reducible first | refine (htk _ (grown_trans hG1 HG)).mono ?_ | refine (htk _ (grown_trans hG1 HD)).mono ?_); rintro e w6 ⟨v6, rfl, V6, hg6⟩; obtain ⟨l6, n6, c6, va6, ln6, vc6, hv6, _⟩ := V6.lie; subst hv6; unfold heapV; (first
        | ((with_reducible replace HG := grown_trans HG hg6); have KN := heap_alloc_new' w6 (.cells hZ 30); replace HZ := Lib.hid (hcell2 (grown_trans HG (hz w6))); replace HS := Lib.hid (hcell2 (grown_trans HG (World.grownBy_alloc w6 (.cells (hC E l6 n6 c6 va6 ln6 vc6) 30) none))); obtain ⟨⟨p0, p1, p2, p3, p4, p5, p6, p7, p8, p9⟩, pf⟩ := ten_cells KN; have pf0 := pf 0 (by decide); have pf1 := pf 1 (by decide); have pf2 := pf 2 (by decide); have pf3 := pf 3 (by decide); have pf4 := pf 4 (by decide); have pf5 := pf 5 (by decide); have pf6 := pf 6 (by decide); have pf7 := pf 7 (by decide); have pf8 := pf 8 (by decide); have pf9 := pf 9 (by decide); clear pf)
        | ((with_reducible replace HG := grown_trans HD hg6); have KB := (hg6.block _ (lt_of_block HKD.out) (by simp)).trans HKD.out; have HKB := Nat.le_refl w1.heap.size; have HP := put10_of (E := E) (la := l6) (n := n6) (c := c6) (va := va6) (ln := ln6) (vc := vc6) KB; unfold put10 at HP; replace HS := Lib.hid (hcell2 (grown_new (grown_trans (grown_any HG _) HP.2) HKB)); clear HP; obtain ⟨⟨p0, p1, p2, p3, p4, p5, p6, p7, p8, p9⟩, pf⟩ := ten_cells KB; have pf0 := pf 0 (by decide); have pf1 := pf 1 (by decide); have pf2 := pf 2 (by decide); have pf3 := pf 3 (by decide); have pf4 := pf 4 (by decide); have pf5 := pf 5 (by decide); have pf6 := pf 6 (by decide); have pf7 := pf 7 (by decide); have pf8 := pf 8 (by decide); have pf9 := pf 9 (by decide); clear pf)); obtain ⟨⟨x0, x1, x2, x3, x4, x5, x6, x7, x8, x9⟩, s3⟩ := hcell2 HG)))
  all_goals
    first
      | (obtain ⟨P9, Q9⟩ := put10_of (E := E) (la := l6) (n := n6) (c := c6) (va := va6) (ln := ln6) (vc := vc6) (show w6.heap[w1.heap.size]? = some (.cells hZ 30 (0, 0)) from KB); obtain ⟨W9, hW9⟩ : ∃ W9, put10 w6 w1.heap.size E l6 n6 c6 va6 ln6 vc6 = W9 := ⟨_, rfl⟩; unfold put10 at hW9 P9 Q9; rw [hW9] at P9 Q9 ⊢; have G9 := grown_new (grown_trans (grown_any HG _) Q9) HKB; have V9 := V6.other KB (by decide) (by decide) Q9; clear hW9 Q9 KB)
      | (have P9 := heap_alloc_new' w6 (.cells (hC E l6 n6 c6 va6 ln6 vc6) 30); have G9 := grown_trans HG (World.grownBy_alloc w6 (.cells (hC E l6 n6 c6 va6 ln6 vc6) 30) none); have V9 := V6.later (World.grownBy_alloc w6 (.cells (hC E l6 n6 c6 va6 ln6 vc6) 30) none); obtain ⟨W9, hW9⟩ : ∃ W9, w6.alloc (.cells (hC E l6 n6 c6 va6 ln6 vc6) 30) = W9 := ⟨_, rfl⟩; rw [hW9] at P9 G9 V9 ⊢; clear hW9 KN)
    clear x0 x1 x2 x3 x4 x5 x6 x7 x8 x9 s3 p0 p1 p2 p3 p4 p5 p6 p7 p8 p9 pf0 pf1 pf2 pf3 pf4 pf5 pf6 pf7 pf8 pf9
    have B9 := (G9.block _ (lt_of_block hx1) (by simp)).trans hx1
    have R9 := (G9.block _ (lt_of_block hr1) (by simp)).trans hr1
    obtain ⟨⟨y0, y1, y2, y3, y4, y5, y6, y7, y8, y9⟩, _⟩ := ten_cells P9
    have hfr7 := hfr _ _ (grown_trans hG1 G9) V9
    unfold heapV at hfr7
    go_wp2_with (first
      | (go_at_call 37; ((with_reducible refine hfr7.mono ?_); rintro e w10 ⟨v10, rfl, V10, hg10⟩; obtain ⟨l9, n9, c9, va9, ln9, vc9, hv9, _⟩ := V10.lie; subst hv9; simp only [heapV] at V10 ⊢; have ga10 := World.grownBy_alloc w10 (.cells (hC E l9 n9 c9 va9 ln9 vc9) 30) none; have G11 := grown_trans hg10 ga10; have R11 := (G11.block _ (lt_of_block R9) (by simp)).trans R9; have V11 := V10.later ga10; obtain ⟨⟨k0, k1, k2, k3, k4, k5, k6, k7, k8, k9⟩, _⟩ := ten_cells (heap_alloc_new' w10 (.cells (hC E l9 n9 c9 va9 ln9 vc9) 30)); obtain ⟨⟨r0, r1, r2, r3, r4, r5, r6, r7, r8, r9⟩, rf⟩ := ten_cells R11; have rf0 := rf 0 (by decide); have rf1 := rf 1 (by decide); have rf2 := rf 2 (by decide); have rf3 := rf 3 (by decide); have rf4 := rf 4 (by decide); have rf5 := rf 5 (by decide); have rf6 := rf 6 (by decide); have rf7 := rf 7 (by decide); have rf8 := rf 8 (by decide); have rf9 := rf 9 (by decide); clear rf)))
    obtain ⟨P11, Q11⟩ := put10_of (E := E) (la := l9) (n := n9) (c := c9) (va := va9) (ln := ln9) (vc := vc9) R11
    obtain ⟨W11, hW11⟩ : ∃ W11, put10 (w10.alloc (.cells (hC E l9 n9 c9 va9 ln9 vc9) 30)) (w.heap.size + 1) E l9 n9 c9 va9 ln9 vc9 = W11 := ⟨_, rfl⟩
    unfold put10 at hW11 P11 Q11
    rw [hW11] at P11 Q11 ⊢
    obtain ⟨⟨b0, b1, b2, b3, b4, b5, b6, b7, b8, b9⟩, _⟩ := ten_cells P11
    refine bodyPost_ret (v := .tuple #[heapV E (.slice l9 n9 c9) (fun c => .slice (va9 c) (ln9 c) (vc9 c)), .int .u64 P, .int .i64 0]) (by simp [results, Tryz.results11, go_sem, heapV, b0, b1, b2, b3, b4, b5, b6, b7, b8, b9]) rfl ?_
    have G10 := grown_trans hG1 (grown_trans G9 G11)
    exact ⟨_, rfl, V11.other R11 (by decide) (by decide) Q11, grown_new (grown_trans (grown_any G10 _) Q11) (Nat.le_succ _)⟩
theorem rz_fine {w : World} {R0 : Option Nat} {base K : Nat} {v : Value} {E : Nat} {bs : List Blk} {L : Nat → List Nat} (h : Fine K E bs L) (hK : K ≤ 700) (hR : ∀ g, R0 = some g → g < w.heap.size) (hv : HvK w R0 base v E bs L) (hbw : base ≤ w.heap.size) (p n : Nat) (hn64 : n < 18446744073709551616) :
    Calls Tryz.prog 11 #[v, .int .u64 p, .int .u64 n] w fun e w' => ∃ v', e = .returned (.tuple #[v', .int .u64 (rzP bs p n : Nat), .int .i64 (rzE bs p n : Nat)]) ∧ HvK w' R0 base v' E (rzB bs p n) (rzL bs L p n) ∧ w.grownBy w' none := by
  have hlen := h.few
  unfold rzP rzE rzB rzL
  cases hf : fstN (pF p) bs with
  | none =>
    refine (rresize12_none hv.is (by omega) hf n).mono ?_
    rintro e w' ⟨rfl, hg⟩
    exact ⟨v, rfl, hv.later hg, hg⟩
  | some i =>
    dsimp only
    by_cases h1 : 18446744073709551560 < n
    · rw [if_pos h1, if_pos h1, if_pos h1, if_pos h1]
      refine (rresize12_size hv.is (by omega) hf hn64 (by omega)).mono ?_
      rintro e w' ⟨rfl, hg⟩
      exact ⟨v, rfl, hv.later hg, hg⟩
    · rw [if_neg h1, if_neg h1, if_neg h1, if_neg h1]
      by_cases h2 : needOf n ≤ gS bs i
      · rw [if_pos h2, if_pos h2, if_pos h2, if_pos h2]
        have hi := (pF_some hf).1
        have hbs := bs_amid hi
        have hti : (bs.take i).length = i := by rw [List.length_take]; omega
        show Calls Tryz.prog 11 #[v, .int .u64 p, .int .u64 n] w fun e w' => ∃ v', e = .returned (.tuple #[v', .int .u64 p, .int .i64 0]) ∧ HvK w' R0 base v' E (ctB (bs.take i ++ ⟨(bs.getD i default).off, (bs.getD i default).s, (bs.getD i default).u, (bs.getD i default).o, n⟩ :: bs.drop (i + 1)) p (needOf n)) L ∧ w.grownBy w' none
        unfold gS at h2
        obtain ⟨b, hb'⟩ : ∃ b, bs.getD i default = b := ⟨_, rfl⟩
        obtain ⟨A, hA⟩ : ∃ A, bs.take i = A := ⟨_, rfl⟩
        obtain ⟨C, hC⟩ : ∃ C, bs.drop (i + 1) = C := ⟨_, rfl⟩
        rw [hb', hA, hC] at hbs
        rw [hb'] at h2
        rw [hA] at hti
        rw [hb', hA, hC]
        rw [hbs] at h hv hf
        rw [← hti] at hf
        exact rresize12_in h (by omega) hR hv hbw hf (by omega) h2
      · rw [if_neg h2, if_neg h2, if_neg h2, if_neg h2]
        cases hq : fitM bs n 16 with
        | none =>
          have e1 : tkP bs n 16 = 0 := by unfold tkP; rw [hq]
          have e2 : tkE bs n 16 = 3 := by unfold tkE; rw [hq]
          rw [e1, e2]
          refine (rresize12_bad h hK hR hv hbw hf (by omega) (by omega) hq).mono ?_
          rintro e w' ⟨rfl, h3, hg⟩
          exact ⟨v, rfl, h3, hg⟩
        | some j =>
          have e2 : tkE bs n 16 = 0 := by unfold tkE; rw [hq]
          rw [e2]
          exact rresize12_out h hK hR hv hbw hf (by omega) (by omega) (by rw [hq]; exact fun e => by cases e)
end Go.Proofs.YtcbdbflgfhbikaaGreat
