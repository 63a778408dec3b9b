/-
  All blocks of any that are laid in a segment, whatever other words are; and the one of any payload. The statement PhysWalks, for every list of pieces, every list of pairs, and every number; no condition.
-/
import Derived.Test.YtmhkibdbamhdoaaPhysP
import Derived.Test.YtmhkibdbamhdoaaPhysQ
import Derived.Test.YtmhkibdbamhdoaaPhysH
import Derived.Test.YtmhkibdbamhdoaaPhysO
namespace Go.Proofs.Ytmhkibdbamhdoaa.physWalks
open Go.ChangeShapes Go.WideShapes Go.ChangeAt Go.RowKit
set_option linter.unusedVariables false
set_option linter.unusedSimpArgs false

set_option maxRecDepth 100000 in
set_option maxHeartbeats 8000000 in
theorem core {la la2 : Option Addr} {n c n2 c2 : Nat} {A B C X V : Nat → Nat} (hc : n ≤ c) (hn : n ≤ maxLen) {w : World} (hp : PiecesAt w la n A B C) (hn2 : n2 ≤ maxLen) (hp2 : PutsAt w la2 n2 X V) (off : Nat) :
    Calls Try.prog 3 #[.slice la n c, .slice la2 n2 c2, .int .u64 off] w fun e w' => e = .returned (.bool true) ∧ w.grownBy w' none := by
  have hla := fun (w1 : World) (hg : w.grownBy w1 none) => laid6_any (c2 := c2) (hp.later hg) hc hn (hp2.later hg) hn2
  have hV : ∀ i, V i < 18446744073709551616 := fun i => (hp2.lt i).2
  have hl6 := fmt48_len 4480
  have HV := Lib.hid hV
  clear hV hp hp2 hn hn2
  obtain ⟨ws, ews⟩ : ∃ ws, fmt48 4480 = ws := ⟨_, rfl⟩
  rw [ews] at hl6
  have HW := Lib.hid ews
  have HL6 := Lib.hid hl6
  clear ews hl6
  go_enter Try.func3, Try.ntmps3
  go_wp2_with (first | (go_at_call 9; ((with_reducible refine (awake6 _).mono ?_); rintro e w1 ⟨rfl, hg1⟩)) | (go_at_call 10; ((with_reducible refine (hla _ hg1).mono ?_); rintro e w2 ⟨l0, N0, hL0, Bb, Db, T, M, R, wv, pv, rfl, X1, hrt, _⟩; obtain ⟨wa, wn, wc, hwv⟩ := wv_form hrt.words; subst hwv; obtain ⟨pa, pn, pc, hpv⟩ := pv_form hrt.puts; subst hpv; have hok := thinkF_ok (X := X) hL0.ok HV.out (min n2 10); obtain ⟨l, el⟩ : ∃ l, thinkF (fmt48 4480) l0 X V (min n2 10) = l := ⟨_, rfl⟩; rw [el] at X1 hrt hok; rw [HW.out] at X1 hrt hok; clear el hL0; have hwl : ws.length ≤ 131072 := (by have := HL6.out; omega); have hll : l.length ≤ 1000000 := (by have := hok.len; omega); obtain ⟨bl, err, hbp⟩ := heap_some ws l hwl; have hlen := hbp.len; have hwk := fun (w : World) (T M : Nat) (R : Option Nat) (B D : Nat) (h : Thinks w T M R B D ws l) => pwalk_any h hbp; have hrw := fun (w : World) (base : Nat) (wv pv : Value) (hb0 : base ≤ w.heap.size) (hlt : ∀ x ∈ ws, x < 18446744073709551616) (h : RTx w base wv pv ws l) => rwalk_any h hb0 hwl hll hok hlt hbp; have hfd := fun (w : World) (T M : Nat) (R : Option Nat) (B D : Nat) (h : Thinks w T M R B D ws l) => pfind_any h hbp off; have hrf := fun (w : World) (base : Nat) (wv pv : Value) (hb0 : base ≤ w.heap.size) (hlt : ∀ x ∈ ws, x < 18446744073709551616) (h : RTx w base wv pv ws l) => rfind_any h hb0 hwl hll hok hlt hbp off; obtain ⟨r, er⟩ : ∃ r, besB (pF off) bl 0 = r := ⟨_, rfl⟩; obtain ⟨s, es⟩ : ∃ s, (besN (pF off) bl 0).isSome = s := ⟨_, rfl⟩; rw [er, es] at hfd hrf; simp only [Blk.val] at hfd hrf; obtain ⟨K, hK⟩ : ∃ K, bl.length = K := ⟨_, rfl⟩; have hsm : ∀ (w : World) (la la2 : Option Addr) (c c2 : Nat) (h : BlksAt w la bl) (h2 : BlksAt w la2 bl), Calls Try.prog 15 #[.slice la K c, .slice la2 K c2] w fun e w' => e = .returned (.bool true) ∧ w.grownBy w' none := (fun w la la2 c c2 h h2 => (by have := same6_yes (c := c) (c2 := c2) h h2 hlen; rw [hK] at this; exact this)); have HK := Lib.hid hK; have hmd := fun w => made6_any r w; have hgx := World.grownBy_alloc w2 (.cells #[.slice wa wn wc, .slice pa pn pc] 29) none; have X2 := X1.later hgx; have hrt2 := hrt.later hgx; clear er es hwl hll hok hbp hlen)) | (go_at_call 11; ((with_reducible refine (hwk _ _ _ _ _ _ X2.tx).mono ?_); rintro e w3 ⟨v3, rfl, ho3, hg3⟩; obtain ⟨la3, c3, hv3, hat3⟩ := ho3.at_; rw [HK.out] at hv3; subst hv3; have X3 := X2.later hg3; have HB3 := Lib.hid ((hg3.block _ (lt_of_block (heap_alloc_new' w2 _)) (by simp)).trans (heap_alloc_new' w2 (.cells #[.slice wa wn wc, .slice pa pn pc] 29))); obtain ⟨q0, q1⟩ := two_cells HB3.out)) | (go_at_call 12; ((with_reducible refine (hrw _ _ _ _ (Nat.le_trans X1.since.size (grown_trans hgx hg3).size) X1.tx.seg.words (hrt2.later hg3)).mono ?_); rintro e w4 ⟨v4, rfl, ho4, hg4⟩; obtain ⟨la4, c4, hv4, hat4⟩ := ho4.at_; rw [HK.out] at hv4; subst hv4; have X4 := X3.later hg4)) | (go_at_call 13; ((with_reducible refine (hfd _ _ _ _ _ _ X4.tx).mono ?_); rintro e w5 ⟨rfl, hg5⟩; have hga5 := World.grownBy_alloc w5 (.cells #[.int .u64 (r.off : Nat), .int .u64 (r.s : Nat), .bool r.u, .int .i64 r.o, .int .u64 (r.n : Nat)] 42) none; have G5 := grown_trans hg5 hga5; have G45 := grown_trans hg4 G5; have X5 := X4.later G5; have HB5 := Lib.hid ((G45.block _ (lt_of_block HB3.out) (by simp)).trans HB3.out); obtain ⟨q2, q3⟩ := two_cells HB5.out)) | (go_at_call 14; ((with_reducible refine (hrf _ _ _ _ (Nat.le_trans X1.since.size (grown_trans hgx (grown_trans hg3 G45)).size) X1.tx.seg.words ((hrt2.later hg3).later G45)).mono ?_); rintro e w6 ⟨rfl, hg6⟩)))
  have hcell : ∀ {wr : World}, (w6.alloc (.cells #[.int .u64 (r.off : Nat), .int .u64 (r.s : Nat), .bool r.u, .int .i64 r.o, .int .u64 (r.n : Nat)] 47)).grownBy wr none → (wr.cell? ⟨w5.heap.size, 0, none⟩ = some (.int .u64 (r.off : Nat)) ∧ wr.cell? ⟨w5.heap.size, 1, none⟩ = some (.int .u64 (r.s : Nat)) ∧ wr.cell? ⟨w5.heap.size, 2, none⟩ = some (.bool r.u) ∧ wr.cell? ⟨w5.heap.size, 3, none⟩ = some (.int .i64 r.o) ∧ wr.cell? ⟨w5.heap.size, 4, none⟩ = some (.int .u64 (r.n : Nat))) ∧ (wr.cell? ⟨w6.heap.size, 0, none⟩ = some (.int .u64 (r.off : Nat)) ∧ wr.cell? ⟨w6.heap.size, 1, none⟩ = some (.int .u64 (r.s : Nat)) ∧ wr.cell? ⟨w6.heap.size, 2, none⟩ = some (.bool r.u) ∧ wr.cell? ⟨w6.heap.size, 3, none⟩ = some (.int .i64 r.o) ∧ wr.cell? ⟨w6.heap.size, 4, none⟩ = some (.int .u64 (r.n : Nat))) := fun {wr} hg => ⟨five_cells (five_first (grown_trans (grown_trans hg6 (World.grownBy_alloc _ _ _)) hg)), five_cells (five_first hg)⟩
  have HG : (w6.alloc (.cells #[.int .u64 (r.off : Nat), .int .u64 (r.s : Nat), .bool r.u, .int .i64 r.o, .int .u64 (r.n : Nat)] 47)).grownBy (w6.alloc (.cells #[.int .u64 (r.off : Nat), .int .u64 (r.s : Nat), .bool r.u, .int .i64 r.o, .int .u64 (r.n : Nat)] 47)).drew none := grown_drew (grown_refl _ _)
  have G6 := grown_trans hg6 (World.grownBy_alloc w6 (.cells #[.int .u64 (r.off : Nat), .int .u64 (r.s : Nat), .bool r.u, .int .i64 r.o, .int .u64 (r.n : Nat)] 47) none)
  obtain ⟨⟨y0, y1, y2, y3, y4⟩, z0, z1, z2, z3, z4⟩ := hcell HG
  go_region_held3 (fun wr => (wr.cell? ⟨w5.heap.size, 0, none⟩ = some (.int .u64 (r.off : Nat)) ∧ wr.cell? ⟨w5.heap.size, 1, none⟩ = some (.int .u64 (r.s : Nat)) ∧ wr.cell? ⟨w5.heap.size, 2, none⟩ = some (.bool r.u) ∧ wr.cell? ⟨w5.heap.size, 3, none⟩ = some (.int .i64 r.o) ∧ wr.cell? ⟨w5.heap.size, 4, none⟩ = some (.int .u64 (r.n : Nat))) ∧ (wr.cell? ⟨w6.heap.size, 0, none⟩ = some (.int .u64 (r.off : Nat)) ∧ wr.cell? ⟨w6.heap.size, 1, none⟩ = some (.int .u64 (r.s : Nat)) ∧ wr.cell? ⟨w6.heap.size, 2, none⟩ = some (.bool r.u) ∧ wr.cell? ⟨w6.heap.size, 3, none⟩ = some (.int .i64 r.o) ∧ wr.cell? ⟨w6.heap.size, 4, none⟩ = some (.int .u64 (r.n : Nat)))) (exact hcell HG)
    (first | (go_at_call 15; ((with_reducible refine (hsm _ _ _ _ _ ((hat3.later G45).later (grown_trans G6 HG)) ((hat4.later G5).later (grown_trans G6 HG))).mono ?_); rintro e w9 ⟨rfl, hg9⟩; replace HG := grown_trans HG hg9)) | (go_at_call 16; ((with_reducible refine (hmd _).mono ?_); rintro e w9 ⟨rfl, hg9⟩; replace HG := grown_trans HG hg9)))
  have hend := grown_trans hg1 (grown_trans X5.since (grown_trans G6 HG))
  go_wp2
  go_ret
  exact ⟨ret_bool' (by simp), hend⟩
theorem walk {la la2 : Option Addr} {n c n2 c2 : Nat} {A B C X V : Nat → Nat} (hc : n ≤ c) (hn : n ≤ maxLen) {w : World} (hp : PiecesAt w la n A B C) (hn2 : n2 ≤ maxLen) (hp2 : PutsAt w la2 n2 X V) (b : Int) (wb : (Lit.int .u64 b).wf = true) :
    Calls Try.prog 3 #[.slice la n c, .slice la2 n2 c2, .int .u64 b] w fun e w' => e = .returned (.bool true) ∧ Below w.heap.size w w' := by
  have b1 := bounds_u64 wb
  obtain ⟨off, rfl⟩ := Int.eq_ofNat_of_zero_le b1.1
  exact (core hc hn hp hn2 hp2 off).mono fun e w' ⟨h1, h2⟩ => ⟨h1, grown_below h2⟩

theorem laidOut : laidOutB Try.prog = true := by kernel_rfl
/-! ### The row's step: the guide's frame -/
theorem own : ownKnob Try.prog.godebug = none := by kernel_rfl
set_option maxRecDepth 100000 in
theorem lifted (os : Os) (started : os.Started) (H : Type) (enc : TypeId × Value → H) :
    ReturnsInHanded {} Try.checked os 3 .any (Rows.physWalksSpec.pre6 enc Try.prog Try.f3 Rows.physWalksRow.domain false) (Rows.physWalksSpec.post enc Try.prog Try.f3 false true false false) := by
  refine returnsInHanded_of_change (C := Try.checked) own started (by kernel_rfl) Try.func3
    (ChangeSpec.witness6 (enc := enc) (C := Try.checked) false ⟨#[], #[.slice none 0 0, .slice none 0 0, .int .u64 0], []⟩ 8 (by kernel_rfl) (by kernel_rfl) (by kernel_rfl) (by kernel_rfl)) ?_
  intro W base args ds gs before hval0 hW hcnd _
  have hval : ∀ (j : Nat) t v, Try.f3.params[j]? = some t → args[j]? = some v → Value.okWide Try.prog W .any base t v := hval0
  have hW' := hW
  obtain ⟨p, q, hA0, hV, rfl, hfz, hnd⟩ := hW
  have hA : DataW.TrodAll enc Try.prog W 0 (fun _ => true) true Try.f3.params.toList args.toList ds p := hA0
  rw [Try.params3] at hA hval
  obtain ⟨v0, vs0, d0, ds0, p0, q0, hargs, rfl, rfl, h0, r0⟩ := trodAll_cons hA
  obtain ⟨v1, vs1, d1, ds1, p1, q1, rfl, rfl, rfl, h1, r1⟩ := trodAll_cons r0
  obtain ⟨v2, vs2, d2, ds2, p2, q2, rfl, rfl, rfl, h2, r2⟩ := trodAll_cons r1
  obtain ⟨rfl, rfl, rfl⟩ := trodAll_nil r2
  obtain rfl : args = #[v0, v1, v2] := by cases args; simp_all
  obtain ⟨rfl, rfl⟩ := trodVars_none hV
  have lt0 : ∀ x ∈ p0, x.block < W.heap.size := by obtain ⟨m, hm⟩ := h0; exact DataW.trod_lt m _ _ _ hm
  obtain ⟨la0, n0, c0, A0, B0, C0, rfl, hc0, hn0, hp0⟩ := open_pieces (hval 0 22 v0 rfl rfl) h0
  have lt1 : ∀ x ∈ p1, x.block < W.heap.size := by obtain ⟨m, hm⟩ := h1; exact DataW.trod_lt m _ _ _ hm
  obtain ⟨la1, n1, c1, X1, V1, rfl, hn1, hp1⟩ := open_puts (hval 1 23 v1 rfl rfl) h1
  obtain ⟨a2, rfl, rfl, rfl, w2⟩ := open_int Try.underlying24 (hval 2 24 v2 rfl rfl) h2
  clear hA0 hval0
  refine (walk hc0 hn0 hp0 hn1 hp1 a2 w2).mono fun e W' ⟨he, bel⟩ => ?_
  subst he
  exact ⟨_, rfl, _, _, _, [], _, [], hW', trodAll_mk1 (shut_bool Try.underlying4 _), (trodAll_cons_mk (Below.trod laidOut (by kernel_rfl) (of_decide_eq_true (by kernel_rfl)) h0 bel lt0) (trodAll_cons_mk (Below.trod laidOut (by kernel_rfl) (of_decide_eq_true (by kernel_rfl)) h1 bel lt1) (trodAll_cons_mk (shut_int Try.underlying24 w2) trodAll_mk0))), rfl, bel.frame _, fun h => by cases h⟩

theorem over : Rows.physWalksRow.holds Try.pinned (OpenSpec.ofChange Rows.physWalksSpec) :=
  OpenClaim.holds_of_wide 3 Try.f3 rfl rfl rfl rfl rfl rfl rfl ⟨rfl, rfl, rfl, rfl, rfl⟩ rfl rfl rfl rfl rfl (by kernel_rfl) Try.func3 (by kernel_rfl)
    (of_decide_eq_true (by kernel_rfl)) (by unfold Func.isWrapper; first | (rw [if_pos (by decide +kernel)]; kernel_rfl) | (rw [if_neg (by decide +kernel)]; exact ⟨rfl, rfl⟩))
    (fun os started H enc _ => lifted os started H enc)

theorem proved : Rows.PhysWalksSaid :=
  over
#print axioms proved


end Go.Proofs.Ytmhkibdbamhdoaa.physWalks
