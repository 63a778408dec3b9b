/-
  The tag of a block at any offset, whatever words stand in a segment. The statement TagReads, for every two numbers, and every list of pairs; no condition.
-/
import Derived.Test.YtgebkdngglljeaaTagF
import Derived.Test.YtgebkdngglljeaaTagO
namespace Go.Proofs.Ytgebkdngglljeaa.tagReads
open Go.ChangeShapes Go.WideShapes Go.ChangeAt Go.RowKit
set_option linter.unusedVariables false
set_option linter.unusedSimpArgs false

set_option maxRecDepth 100000 in
set_option maxHeartbeats 8000000 in
theorem core (n : Nat) (hn : n < 18446744073709551616) {la : Option Addr} {m c : Nat} {X V : Nat → Nat} (hm : m ≤ maxLen) {w : World} (hp : PutsAt w la m X V) (off : Nat) (ho : off < 18446744073709551616) :
    Calls Try.prog 5 #[.int .u64 n, .slice la m c, .int .u64 off] w fun e w' => e = .returned (.bool true) ∧ w.grownBy w' none := by
  have hfo := fun (w1 : World) (hg : w.grownBy w1 none) => formed_any (n := n) (c2 := c) hn (hp.later hg) hm
  have hok := thinkL_ok (ws := fmt48 n) (X := X) (fun i => (hp.lt i).2) (min m 60)
  have hl6 := fmt48_len n
  obtain ⟨ws, ews⟩ : ∃ ws, fmt48 n = ws := ⟨_, rfl⟩
  rw [ews] at hfo hok hl6
  obtain ⟨l, el⟩ : ∃ l, thinkL ws X V (min m 60) = l := ⟨_, rfl⟩
  rw [el] at hfo hok
  have hll : l.length ≤ 1000000 := by have := hok.len; omega
  have hwl : ws.length ≤ 131072 := by omega
  have hr1 := fun (w : World) (T M : Nat) (R : Option Nat) (B D : Nat) (h : Thinks w T M R B D ws l) => tread_any h off ho
  have hr2 := fun (w : World) (base : Nat) (wv pv : Value) (hlt : ∀ k, txSee ws l k < 18446744073709551616) (h : RTx w base wv pv ws l) => rtread_any h hwl hll hlt off ho
  obtain ⟨s, a1⟩ : ∃ k, rdS (txSee ws l) off = k := ⟨_, rfl⟩
  obtain ⟨u, a2⟩ : ∃ k, rdU (txSee ws l) off = k := ⟨_, rfl⟩
  obtain ⟨o, a3⟩ : ∃ k, rdO (txSee ws l) off = k := ⟨_, rfl⟩
  obtain ⟨ee, a4⟩ : ∃ k, rdE (txSee ws l) off = k := ⟨_, rfl⟩
  rw [a1, a2, a3, a4] at hr1 hr2
  have hmd := fun w => made_any s u (o : Nat) w
  clear a1 a2 a3 a4 ews el hl6 hwl hll
  go_enter Try.func5, Try.ntmps5
  go_wp2_with (first | (go_at_call 8; ((with_reducible refine (awake5 _).mono ?_); rintro e w1 ⟨rfl, hg1⟩)) | (go_at_call 16; ((with_reducible refine (hfo _ hg1).mono ?_); rintro e w2 ⟨B, D, T, M, R, wv, pv, rfl, X1, hrt, _⟩; obtain ⟨wa, wn, wc, hwv⟩ := wv_form hrt.words; subst hwv; obtain ⟨pa, pn, pc, hpv⟩ := pv_form hrt.puts; subst hpv; have hgx := World.grownBy_alloc w2 (.cells #[.slice wa wn wc, .slice pa pn pc] 42) none; have X2 := X1.later hgx; have HLT := Lib.hid (fun k => txSee_lt X1.tx.seg.words X1.tx.ok k))) | (go_at_call 17; ((with_reducible refine (hr1 _ _ _ _ _ _ X2.tx).mono ?_); rintro e w3 ⟨rfl, hg3⟩; have hga := World.grownBy_alloc w3 (.cells #[.int .u64 s, .bool u, .int .i64 o] 26) none; have hg23 := grown_trans hg3 hga; have X3 := X2.later hg23; have hb3 := (hg23.block _ (lt_of_block (heap_alloc_new' w2 _)) (by simp)).trans (heap_alloc_new' w2 (.cells #[.slice wa wn wc, .slice pa pn pc] 42)); obtain ⟨q0, q1⟩ := two_cells hb3; have HB3 := Lib.hid hb3; clear hb3)) | (go_at_call 18; ((with_reducible refine (hr2 _ _ _ _ HLT.out (hrt.later (grown_trans hgx hg23))).mono ?_); rintro e w4 ⟨rfl, hg4⟩; have hgb := World.grownBy_alloc w4 (.cells #[.int .u64 s, .bool u, .int .i64 o] 24) none)))
  have G4 := grown_trans X3.since (grown_trans hg4 hgb)
  have hcell : ∀ {wr : World}, (w4.alloc (.cells #[.int .u64 s, .bool u, .int .i64 o] 24)).grownBy wr none →
      (wr.cell? ⟨w3.heap.size, 0, none⟩ = some (.int .u64 s) ∧ wr.cell? ⟨w3.heap.size, 1, none⟩ = some (.bool u) ∧ wr.cell? ⟨w3.heap.size, 2, none⟩ = some (.int .i64 o)) ∧
      (wr.cell? ⟨w4.heap.size, 0, none⟩ = some (.int .u64 s) ∧ wr.cell? ⟨w4.heap.size, 1, none⟩ = some (.bool u) ∧ wr.cell? ⟨w4.heap.size, 2, none⟩ = some (.int .i64 o)) := fun {wr} hg =>
    ⟨tag_cells (tag_first (grown_trans (grown_trans hg4 hgb) hg)), tag_cells (tag_first hg)⟩
  have HG : (w4.alloc (.cells #[.int .u64 s, .bool u, .int .i64 o] 24)).grownBy (w4.alloc (.cells #[.int .u64 s, .bool u, .int .i64 o] 24)).drew none := grown_drew (grown_refl _ _)
  obtain ⟨⟨y0, y1, y2⟩, z0, z1, z2⟩ := hcell HG
  go_region_held3 (fun wr => (wr.cell? ⟨w3.heap.size, 0, none⟩ = some (.int .u64 s) ∧ wr.cell? ⟨w3.heap.size, 1, none⟩ = some (.bool u) ∧ wr.cell? ⟨w3.heap.size, 2, none⟩ = some (.int .i64 o)) ∧
      (wr.cell? ⟨w4.heap.size, 0, none⟩ = some (.int .u64 s) ∧ wr.cell? ⟨w4.heap.size, 1, none⟩ = some (.bool u) ∧ wr.cell? ⟨w4.heap.size, 2, none⟩ = some (.int .i64 o))) (exact hcell HG)
    (first | (go_at_call 12; ((with_reducible refine (hmd _).mono ?_); rintro e w9 ⟨rfl, hg9⟩; replace HG := grown_trans HG hg9)))
  have hend := grown_trans hg1 (grown_trans G4 HG)
  go_wp2
  go_ret
  exact ⟨ret_bool' (by simp), hend⟩
theorem walk (a : Int) (wa : (Lit.int .u64 a).wf = true) {la : Option Addr} {m c : Nat} {X V : Nat → Nat} (hm : m ≤ maxLen) {w : World} (hp : PutsAt w la m X V) (b : Int) (wb : (Lit.int .u64 b).wf = true) :
    Calls Try.prog 5 #[.int .u64 a, .slice la m c, .int .u64 b] w fun e w' => e = .returned (.bool true) ∧ Below w.heap.size w w' := by
  have b0 := bounds_u64 wa
  have b1 := bounds_u64 wb
  obtain ⟨n, rfl⟩ := Int.eq_ofNat_of_zero_le b0.1
  obtain ⟨off, rfl⟩ := Int.eq_ofNat_of_zero_le b1.1
  exact (core n (by omega) hm hp off (by omega)).mono fun e w' ⟨h1, h2⟩ => ⟨h1, grown_below h2⟩

theorem laidOut : laidOutB Try.prog = true := by kernel_rfl
/-! ### The row's step: the guide's frame -/
theorem own : ownKnob Try.prog.godebug = none := by kernel_rfl
set_option maxRecDepth 100000 in
theorem lifted (os : Os) (started : os.Started) (H : Type) (enc : TypeId × Value → H) :
    ReturnsInHanded {} Try.checked os 5 .any (Rows.tagReadsSpec.pre6 enc Try.prog Try.f5 Rows.tagReadsRow.domain false) (Rows.tagReadsSpec.post enc Try.prog Try.f5 false true false false) := by
  refine returnsInHanded_of_change (C := Try.checked) own started (by kernel_rfl) Try.func5
    (ChangeSpec.witness6 (enc := enc) (C := Try.checked) false ⟨#[], #[.int .u64 0, .slice none 0 0, .int .u64 0], []⟩ 8 (by kernel_rfl) (by kernel_rfl) (by kernel_rfl) (by kernel_rfl)) ?_
  intro W base args ds gs before hval0 hW hcnd _
  have hval : ∀ (j : Nat) t v, Try.f5.params[j]? = some t → args[j]? = some v → Value.okWide Try.prog W .any base t v := hval0
  have hW' := hW
  obtain ⟨p, q, hA0, hV, rfl, hfz, hnd⟩ := hW
  have hA : DataW.TrodAll enc Try.prog W 0 (fun _ => true) true Try.f5.params.toList args.toList ds p := hA0
  rw [Try.params5] at hA hval
  obtain ⟨v0, vs0, d0, ds0, p0, q0, hargs, rfl, rfl, h0, r0⟩ := trodAll_cons hA
  obtain ⟨v1, vs1, d1, ds1, p1, q1, rfl, rfl, rfl, h1, r1⟩ := trodAll_cons r0
  obtain ⟨v2, vs2, d2, ds2, p2, q2, rfl, rfl, rfl, h2, r2⟩ := trodAll_cons r1
  obtain ⟨rfl, rfl, rfl⟩ := trodAll_nil r2
  obtain rfl : args = #[v0, v1, v2] := by cases args; simp_all
  obtain ⟨rfl, rfl⟩ := trodVars_none hV
  obtain ⟨a0, rfl, rfl, rfl, w0⟩ := open_int Try.underlying22 (hval 0 22 v0 rfl rfl) h0
  have lt1 : ∀ x ∈ p1, x.block < W.heap.size := by obtain ⟨m, hm⟩ := h1; exact DataW.trod_lt m _ _ _ hm
  obtain ⟨la1, n1, c1, X1, V1, rfl, hn1, hp1⟩ := open_puts (hval 1 38 v1 rfl rfl) h1
  obtain ⟨a2, rfl, rfl, rfl, w2⟩ := open_int Try.underlying22 (hval 2 22 v2 rfl rfl) h2
  clear hA0 hval0
  refine (walk a0 w0 hn1 hp1 a2 w2).mono fun e W' ⟨he, bel⟩ => ?_
  subst he
  exact ⟨_, rfl, _, _, _, [], _, [], hW', trodAll_mk1 (shut_bool Try.underlying4 _), (trodAll_cons_mk (shut_int Try.underlying22 w0) (trodAll_cons_mk (Below.trod laidOut (by kernel_rfl) (of_decide_eq_true (by kernel_rfl)) h1 bel lt1) (trodAll_cons_mk (shut_int Try.underlying22 w2) trodAll_mk0))), rfl, bel.frame _, fun h => by cases h⟩

theorem over : Rows.tagReadsRow.holds Try.pinned (OpenSpec.ofChange Rows.tagReadsSpec) :=
  OpenClaim.holds_of_wide 5 Try.f5 rfl rfl rfl rfl rfl rfl rfl ⟨rfl, rfl, rfl, rfl, rfl⟩ rfl rfl rfl rfl rfl (by kernel_rfl) Try.func5 (by kernel_rfl)
    (of_decide_eq_true (by kernel_rfl)) (by unfold Func.isWrapper; first | (rw [if_pos (by decide +kernel)]; kernel_rfl) | (rw [if_neg (by decide +kernel)]; exact ⟨rfl, rfl⟩))
    (fun os started H enc _ => lifted os started H enc)

theorem proved : Rows.TagReadsSaid :=
  over
#print axioms proved


end Go.Proofs.Ytgebkdngglljeaa.tagReads
