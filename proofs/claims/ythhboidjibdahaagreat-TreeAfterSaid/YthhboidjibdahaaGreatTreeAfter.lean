/-
  The block behind any size and any offset, in the tree of any blocks. The statement TreeAfter, for every list of pieces, every size and every offset; no condition.
-/
import Derived.Test.YthhboidjibdahaaGreatTreeAx
import Derived.Test.YthhboidjibdahaaGreatTreeVa
import Derived.BigQuiet
import Derived.Test.YthhboidjibdahaaGreatArrO
namespace Go.Proofs.YthhboidjibdahaaGreat.treeAfter
open Go.ChangeShapes Go.WideShapes Go.ChangeAt Go.RowKit
set_option linter.unusedVariables false
set_option linter.unusedSimpArgs false

set_option maxRecDepth 100000 in
set_option maxHeartbeats 8000000 in
theorem core {la : Option Addr} {n c : Nat} {A B C : Nat → Nat} (hc : n ≤ c) (hn : n ≤ maxLen) {w : World} (hp : PiecesAt w la n A B C) (s o : Nat) :
    Calls Tryz.prog 4 #[.slice la n c, .int .u64 s, .int .u64 o] w fun e w' => e = .returned (.bool true) ∧ w.grownBy w' none := by
  have hla := fun (w1 : World) (hg : w.grownBy w1 none) => laid7_from hp hc hn hg
  go_enter Tryz.func4, Tryz.ntmps4
  go_wp2_with (first
    | (go_at_call 5; ((with_reducible refine (awake7 _).mono ?_); rintro e w1 ⟨rfl, hg1⟩))
    | (go_at_call 6; ((with_reducible refine (hla _ hg1).mono ?_); rintro e w2 ⟨ws, T, R, wa, wn, wc, pa, pn, pc, F, fa, fc, l, rfl, HL, hg2⟩; have ga := World.grownBy_alloc w2 (.cells #[.slice wa wn wc, .slice pa pn pc] 29) none; have X2 := HL.tree.later ga; have K2 := HL.free.later ga; have W2 := HL.words.later ga; have P2 := own_kept HL.puts ga; have xb2 := heap_alloc_new' w2 (.cells #[.slice wa wn wc, .slice pa pn pc] 29); have OK := HL.ok; have hF64 : ∀ x, x ∈ F → x < 18446744073709551616 := (fun x hx => by have := X2.free.on x hx; omega); have HF := Lib.hid HL.few; have HF' : F.length ≤ 1000000 := (by have := HL.few; omega); have HF1 : F.length ≤ 100000 := (by have := HL.few; omega); have H64 := Lib.hid hF64; clear HL hF64))
    | (go_at_call 14; ((with_reducible refine (tw_build X2 K2.lie HF').mono ?_); rintro e w3 ⟨rfl, R3, X3, G3⟩; have K3 := G3.row K2; have W3 := G3.row W2; have P3 := G3.puts P2; have xb3 := G3.far xb2 (by decide) (by decide)))
    | (go_at_call 15; ((with_reducible refine (tw_after X3 s o).mono ?_); rintro e w4 ⟨rfl, hg4⟩; have X4 := X3.later hg4; have K4 := K3.later hg4; have W4 := W3.later hg4; have P4 : OwnP w4 w.heap.size (.slice pa pn pc) l := own_kept P3 hg4; have xb4 := two_held xb3 hg4; obtain ⟨t0, t1⟩ := two_cells xb4))
    | (go_at_call 16; ((with_reducible refine (rafter_any ⟨W4.own, P4⟩ OK K4.lie HF1 H64.out s o).mono ?_); rintro e w5 ⟨rfl, hg5⟩; have X5 := X4.later hg5)))
  go_ret
  exact ⟨ret_bool' (by simp), X5.since⟩
theorem walk {la : Option Addr} {n c : Nat} {A B C : Nat → Nat} (hc : n ≤ c) (hn : n ≤ maxLen) {w : World} (hp : PiecesAt w la n A B C) (s : Int) (ws : (Lit.int .u64 s).wf = true) (o : Int) (wo : (Lit.int .u64 o).wf = true) :
    Calls Tryz.prog 4 #[.slice la n c, .int .u64 s, .int .u64 o] w fun e w' => e = .returned (.bool true) ∧ Below w.heap.size w w' := by
  have b1 := bounds_u64 ws
  have b2 := bounds_u64 wo
  obtain ⟨s', rfl⟩ := Int.eq_ofNat_of_zero_le b1.1
  obtain ⟨o', rfl⟩ := Int.eq_ofNat_of_zero_le b2.1
  exact (core hc hn hp s' o').mono fun e w' ⟨h1, h2⟩ => ⟨h1, grown_below h2⟩
theorem laidOut : laidOutB Tryz.prog = true := by kernel_rfl
/-! ### The row's step: the guide's frame -/
theorem own : ownKnob Tryz.prog.godebug = none := by kernel_rfl
set_option maxRecDepth 100000 in
theorem lifted (os : Os) (started : os.Started) (H : Type) (enc : TypeId × Value → H) :
    ReturnsInHanded {} Tryz.checked os 4 .any (Rows.treeAfterSpec.pre6 enc Tryz.prog Tryz.f4 Rows.treeAfterRow.domain false) (Rows.treeAfterSpec.post enc Tryz.prog Tryz.f4 false true false false) := by
  refine returnsInHanded_of_change (C := Tryz.checked) own started (by kernel_rfl) Tryz.func4
    (ChangeSpec.witness6 (enc := enc) (C := Tryz.checked) false ⟨#[], #[.slice none 0 0, .int .u64 0, .int .u64 0], []⟩ 8 (by kernel_rfl) (by kernel_rfl) (by kernel_rfl) (by kernel_rfl)) ?_
  intro W base args ds gs before hval0 hW hcnd _
  have hval : ∀ (j : Nat) t v, Tryz.f4.params[j]? = some t → args[j]? = some v → Value.okWide Tryz.prog W .any base t v := hval0
  have hW' := hW
  obtain ⟨p, q, hA0, hV, rfl, hfz, hnd⟩ := hW
  have hA : DataW.TrodAll enc Tryz.prog W 0 (fun _ => true) true Tryz.f4.params.toList args.toList ds p := hA0
  rw [Tryz.params4] at hA hval
  obtain ⟨v0, vs0, d0, ds0, p0, q0, hargs, rfl, rfl, h0, r0⟩ := trodAll_cons hA
  obtain ⟨v1, vs1, d1, ds1, p1, q1, rfl, rfl, rfl, h1, r1⟩ := trodAll_cons r0
  obtain ⟨v2, vs2, d2, ds2, p2, q2, rfl, rfl, rfl, h2, r2⟩ := trodAll_cons r1
  obtain ⟨rfl, rfl, rfl⟩ := trodAll_nil r2
  obtain rfl : args = #[v0, v1, v2] := by cases args; simp_all
  obtain ⟨rfl, rfl⟩ := trodVars_none hV
  have lt0 : ∀ x ∈ p0, x.block < W.heap.size := by obtain ⟨m, hm⟩ := h0; exact DataW.trod_lt m _ _ _ hm
  obtain ⟨la0, n0, c0, A0, B0, C0, rfl, hc0, hn0, hp0⟩ := open_pieces (hval 0 22 v0 rfl rfl) h0
  obtain ⟨a1, rfl, rfl, rfl, w1⟩ := open_int Tryz.underlying33 (hval 1 33 v1 rfl rfl) h1
  obtain ⟨a2, rfl, rfl, rfl, w2⟩ := open_int Tryz.underlying33 (hval 2 33 v2 rfl rfl) h2
  clear hA0 hval0
  refine (walk hc0 hn0 hp0 a1 w1 a2 w2).mono fun e W' ⟨he, bel⟩ => ?_
  subst he
  exact ⟨_, rfl, _, _, _, [], _, [], hW', trodAll_mk1 (shut_bool Tryz.underlying4 _), (trodAll_cons_mk (Below.trod laidOut (by kernel_rfl) (of_decide_eq_true (by kernel_rfl)) h0 bel lt0) (trodAll_cons_mk (shut_int Tryz.underlying33 w1) (trodAll_cons_mk (shut_int Tryz.underlying33 w2) trodAll_mk0))), rfl, bel.frame _, fun h => by cases h⟩

theorem over : Rows.treeAfterRow.holds Tryz.pinned (OpenSpec.ofChange Rows.treeAfterSpec) :=
  OpenClaim.holds_of_wide 4 Tryz.f4 rfl rfl rfl rfl rfl rfl rfl ⟨rfl, rfl, rfl, rfl, rfl⟩ rfl rfl rfl rfl rfl (by kernel_rfl) Tryz.func4 (by kernel_rfl)
    (of_decide_eq_true (by kernel_rfl)) (by unfold Func.isWrapper; first | (rw [if_pos (by decide +kernel)]; kernel_rfl) | (rw [if_neg (by decide +kernel)]; exact ⟨rfl, rfl⟩))
    (fun os started H enc _ => lifted os started H enc)

theorem proved : Rows.TreeAfterSaid :=
  over
#print axioms proved


end Go.Proofs.YthhboidjibdahaaGreat.treeAfter
