/-
  One behind the other all are told, from nothing on. The statement TreeSteps, for every list of pieces; no condition.
-/
import Derived.Test.YthhboidjibdahaaTreeAx
import Derived.Test.YthhboidjibdahaaTreeUa
import Derived.Test.YthhboidjibdahaaTreeMb
import Derived.BigQuiet
import Derived.Test.YthhboidjibdahaaArrO
namespace Go.Proofs.Ythhboidjibdahaa.treeSteps
open Go.ChangeShapes Go.WideShapes Go.ChangeAt Go.RowKit
set_option linter.unusedVariables false
set_option linter.unusedSimpArgs false

/-- behind the k-th one the next one is told -/
theorem gt_next {z : Nat → Nat} {S : List Nat} {k : Nat} (hr : Rising z S) (hk : k < S.length) : gtL z (z (S.getD k 0)) (S.getD k 0) S = S.drop (k + 1) := by
  obtain ⟨y, hy⟩ : ∃ y, S.getD k 0 = y := ⟨_, rfl⟩
  rw [hy]
  have h1 : S = S.take k ++ y :: S.drop (k + 1) := by rw [← drop_get hk hy, List.take_append_drop]
  have h2 : Rising z (S.take k ++ y :: S.drop (k + 1)) := by rw [← h1]; exact hr
  have h3 := List.pairwise_append.1 h2
  have h4 := List.pairwise_cons.1 h3.2.1
  unfold gtL
  conv => lhs; rw [h1]
  rw [List.filter_append, List.filter_cons, if_neg (by unfold ltK; simp), List.filter_eq_nil_iff.2, List.nil_append, List.filter_eq_self.2]
  · intro x hx
    have h5 := h4.1 x hx
    rw [decide_eq_true_eq]
    unfold blkLt keyLt at h5
    unfold ltK
    omega
  · intro x hx
    have h5 := h3.2.2 x hx y (by simp)
    rw [decide_eq_true_eq]
    unfold blkLt keyLt at h5
    unfold ltK
    omega
/-- from nothing on all are told -/
theorem gt_all {z : Nat → Nat} {S : List Nat} (h : ∀ x, x ∈ S → 0 < x) : gtL z 0 0 S = S := by
  unfold gtL
  rw [List.filter_eq_self.2]
  intro x hx
  have := h x hx
  rw [decide_eq_true_eq]
  unfold ltK
  omega

set_option maxRecDepth 100000 in
set_option maxHeartbeats 8000000 in
theorem core {la : Option Addr} {n c : Nat} {A B C : Nat → Nat} (hc : n ≤ c) (hn : n ≤ maxLen) {w : World} (hp : PiecesAt w la n A B C) :
    Calls Try.prog 4 #[.slice la n c] w fun e w' => e = .returned (.bool true) ∧ w.grownBy w' none := by
  have hla := fun (w1 : World) (hg : w.grownBy w1 none) => laid7_from hp hc hn hg
  go_enter Try.func4, Try.ntmps4
  go_wp2_with (first
    | (go_at_call 6; ((with_reducible refine (awake7 _).mono ?_); rintro e w1 ⟨rfl, hg1⟩))
    | (go_at_call 7; ((with_reducible refine (hla _ hg1).mono ?_); rintro e w2 ⟨ws, T, R, wa, wn, wc, pa, pn, pc, F, fa, fc, l, rfl, HL, hg2⟩; have ga := World.grownBy_alloc w2 (.cells #[.slice wa wn wc, .slice pa pn pc] 29) none; have X2 := HL.tree.later ga; have K2 := HL.free.later ga; have W2 := HL.words.later ga; have P2 := own_kept HL.puts ga; have xb2 := heap_alloc_new' w2 (.cells #[.slice wa wn wc, .slice pa pn pc] 29); have OK := HL.ok; have hF64 : ∀ x, x ∈ F → x < 18446744073709551616 := (fun x hx => by have := X2.free.on x hx; omega); have HF := Lib.hid HL.few; have HF' : F.length ≤ 1000000 := (by have := HL.few; omega); have HF1 : F.length ≤ 100000 := (by have := HL.few; omega); have H64 := Lib.hid hF64; clear HL hF64))
    | (go_at_call 8; ((with_reducible refine (tw_build X2 K2.lie HF').mono ?_); rintro e w3 ⟨rfl, R3, X3, G3⟩; have K3 := G3.row K2; have W3 := G3.row W2; have P3 := G3.puts P2; have xb3 := G3.far xb2 (by decide) (by decide); obtain ⟨t0, t1⟩ := two_cells xb3))
    | (go_at_call 14; ((with_reducible refine (rsorted_any ⟨W3.own, P3⟩ OK K3.lie HF1 H64.out).mono ?_); rintro e w4 ⟨vs, rfl, hos, hg4⟩)))
  have X4 := X3.later hg4
  have W4 := W3.own.later hg4
  have P4 := own_kept P3 hg4
  have xb4 := two_held xb3 hg4
  have hsz := fun (w1 : World) (hg : w4.grownBy w1 none) (x : Nat) (hx : x < 18446744073709551616) => rsize_any (RTx.later ⟨W4, P4⟩ hg) OK.words OK.puts OK.lt x hx
  obtain ⟨z, ez⟩ : ∃ z, (fun x => tS (txSee ws l x)) = z := ⟨_, rfl⟩
  have hsz' : ∀ (w1 : World) (hg : w4.grownBy w1 none) (x : Nat) (hx : x < 18446744073709551616), Calls Try.prog 16 #[.agg #[.slice wa wn wc, .slice pa pn pc], .int .u64 x] w1 fun e w' => e = .returned (.int .u64 (z x : Nat)) ∧ w1.grownBy w' none := fun w1 hg x hx => by
    have := hsz w1 hg x hx
    rw [← ez]
    exact this
  rw [ez] at X4 hos
  obtain ⟨sa, sc, rfl⟩ := hos.slice
  have hris : Rising z (srtK z F) := srtK_rising X4.free.nodup
  have hpos : ∀ x, x ∈ srtK z F → 0 < x ∧ x < 18446744073709551616 := fun x hx => by
    have := X4.free.on x (srtK_mem.1 hx)
    omega
  have haf := fun (w1 : World) (hg : w4.grownBy w1 none) (s o : Nat) => tw_after (X4.later hg) s o
  obtain ⟨S, hS⟩ : ∃ S, srtK z F = S := ⟨_, rfl⟩
  rw [hS] at hos hris hpos haf ⊢
  obtain ⟨m, hm⟩ : ∃ m, S.length = m := ⟨_, rfl⟩
  have hml : m ≤ 4800 := by rw [← hm, ← hS, srtK_length]; exact HF.out
  have HM := Lib.hid hm
  have HO := Lib.hid hos
  have HX := Lib.hid xb4
  have HAF := Lib.hid haf
  have HRI := Lib.hid hris
  have HPO := Lib.hid hpos
  rw [hm]
  generalize w2.heap.size = bx at *
  have hend := X4.since
  clear hg1 hg2 ga X2 K2 W2 P2 xb2 OK HF' HF1 H64 HF X3 G3 K3 W3 P3 xb3 t0 t1 hsz ez hos hris hpos haf hS hm xb4 W4 P4 hla hp hn X4 hg4
  go_loopw [8, 9, 10] (fun a b i wr => ∃ k sz of, k ≤ m ∧ a = .int .u64 (sz : Nat) ∧ b = .int .u64 (of : Nat) ∧ i = .int .i64 (k : Nat) ∧ gtL z sz of S = S.drop k ∧ w4.grownBy wr none) (fun _ _ i _ => m - (intOf i).toNat)
  case atStart => exact ⟨0, 0, 0, Nat.zero_le _, rfl, rfl, rfl, gt_all (fun x hx => (HPO.out x hx).1), grown_refl _ _⟩
  case round =>
    obtain ⟨k, sz, of, hk, rfl, rfl, rfl, hG, hgk⟩ := hrel
    have hA := HAF.out wr hgk sz of
    rw [hG] at hA
    rcases Nat.lt_or_ge k m with h1 | h1
    · obtain ⟨b, off, rfl, hb, _⟩ := (lie_at HO.out).cells (by rw [HM.out]; omega)
      obtain ⟨y, hy⟩ : ∃ y, S.getD k 0 = y := ⟨_, rfl⟩
      have hyS : y ∈ S := by
        rw [← hy, List.getD_eq_getElem?_getD, List.getElem?_eq_getElem (by rw [HM.out]; exact h1)]
        exact List.getElem_mem _
      have hy64 := (HPO.out y hyS).2
      have hd := drop_get (by rw [HM.out]; exact h1) hy
      rw [hd] at hA
      have hA' : Calls Try.prog 15 #[.pointer (some ⟨T, 0, none⟩), .int .u64 sz, .int .u64 of] wr fun e w' => e = .returned (.tuple #[.int .u64 (y : Nat), .bool true]) ∧ wr.grownBy w' none := by
        have e1 : atL (y :: S.drop (k + 1)) 0 = y := rfl
        have e2 : decide (0 < (y :: S.drop (k + 1)).length) = true := by simp
        rw [e1, e2] at hA
        exact hA
      have hnx := gt_next HRI.out (k := k) (by rw [HM.out]; exact h1)
      rw [hy] at hnx
      have HNX := Lib.hid hnx
      have HY := Lib.hid hy
      have hk1 : (k : Int) < (m : Int) := by omega
      have e2 : ((y : Int) != (y : Int)) = false := by simp
      clear hA hG hnx hd hyS hy
      go_wp2_with (first
        | (go_at_call 15; ((with_reducible refine hA'.mono ?_); rintro e w9 ⟨rfl, hg9⟩; have HG := grown_trans hgk hg9; have ly := (lie_at HO.out).keep2 HG HM.out h1 HY.out; obtain ⟨t0, t1⟩ := two_cells (two_held HX.out HG)))
        | (go_at_call 16; ((with_reducible refine (hsz' _ HG y hy64).mono ?_); rintro e w10 ⟨rfl, hg10⟩; replace HG := grown_trans HG hg10)))
      clear t0 t1 ly
      go_roundw
      case rel => exact ⟨k + 1, z y, y, by omega, rfl, rfl, by go_num, HNX.out, HG⟩
      case measure => simp [intOf]; omega
    · obtain rfl : k = m := by omega
      rw [List.drop_eq_nil_of_le (Nat.le_of_eq HM.out)] at hA
      have hA' : Calls Try.prog 15 #[.pointer (some ⟨T, 0, none⟩), .int .u64 sz, .int .u64 of] wr fun e w' => e = .returned (.tuple #[.int .u64 0, .bool false]) ∧ wr.grownBy w' none := hA
      clear hA hG
      go_wp2_with (first
        | (go_at_call 15; ((with_reducible refine hA'.mono ?_); rintro e w9 ⟨rfl, hg9⟩; have HG := grown_trans hgk hg9)))
      go_ret
      exact ⟨rfl, grown_trans hend HG⟩
theorem walk {la : Option Addr} {n c : Nat} {A B C : Nat → Nat} (hc : n ≤ c) (hn : n ≤ maxLen) {w : World} (hp : PiecesAt w la n A B C) :
    Calls Try.prog 4 #[.slice la n c] w fun e w' => e = .returned (.bool true) ∧ Below w.heap.size w w' :=
  (core hc hn hp).mono fun e w' ⟨h1, h2⟩ => ⟨h1, grown_below h2⟩
theorem laidOut : laidOutB Try.prog = true := by kernel_rfl
/-! ### The row's step: the guide's frame -/
theorem own : ownKnob Try.prog.godebug = none := by kernel_rfl
set_option maxRecDepth 100000 in
theorem lifted (os : Os) (started : os.Started) (H : Type) (enc : TypeId × Value → H) :
    ReturnsInHanded {} Try.checked os 4 .any (Rows.treeStepsSpec.pre6 enc Try.prog Try.f4 Rows.treeStepsRow.domain false) (Rows.treeStepsSpec.post enc Try.prog Try.f4 false true false false) := by
  refine returnsInHanded_of_change (C := Try.checked) own started (by kernel_rfl) Try.func4
    (ChangeSpec.witness6 (enc := enc) (C := Try.checked) false ⟨#[], #[.slice none 0 0], []⟩ 8 (by kernel_rfl) (by kernel_rfl) (by kernel_rfl) (by kernel_rfl)) ?_
  intro W base args ds gs before hval0 hW hcnd _
  have hval : ∀ (j : Nat) t v, Try.f4.params[j]? = some t → args[j]? = some v → Value.okWide Try.prog W .any base t v := hval0
  have hW' := hW
  obtain ⟨p, q, hA0, hV, rfl, hfz, hnd⟩ := hW
  have hA : DataW.TrodAll enc Try.prog W 0 (fun _ => true) true Try.f4.params.toList args.toList ds p := hA0
  rw [Try.params4] at hA hval
  obtain ⟨v0, vs0, d0, ds0, p0, q0, hargs, rfl, rfl, h0, r0⟩ := trodAll_cons hA
  obtain ⟨rfl, rfl, rfl⟩ := trodAll_nil r0
  obtain rfl : args = #[v0] := by cases args; simp_all
  obtain ⟨rfl, rfl⟩ := trodVars_none hV
  have lt0 : ∀ x ∈ p0, x.block < W.heap.size := by obtain ⟨m, hm⟩ := h0; exact DataW.trod_lt m _ _ _ hm
  obtain ⟨la0, n0, c0, A0, B0, C0, rfl, hc0, hn0, hp0⟩ := open_pieces (hval 0 22 v0 rfl rfl) h0
  clear hA0 hval0
  refine (walk hc0 hn0 hp0).mono fun e W' ⟨he, bel⟩ => ?_
  subst he
  exact ⟨_, rfl, _, _, _, [], _, [], hW', trodAll_mk1 (shut_bool Try.underlying4 _), (trodAll_cons_mk (Below.trod laidOut (by kernel_rfl) (of_decide_eq_true (by kernel_rfl)) h0 bel lt0) trodAll_mk0), rfl, bel.frame _, fun h => by cases h⟩

theorem over : Rows.treeStepsRow.holds Try.pinned (OpenSpec.ofChange Rows.treeStepsSpec) :=
  OpenClaim.holds_of_wide 4 Try.f4 rfl rfl rfl rfl rfl rfl rfl ⟨rfl, rfl, rfl, rfl, rfl⟩ rfl rfl rfl rfl rfl (by kernel_rfl) Try.func4 (by kernel_rfl)
    (of_decide_eq_true (by kernel_rfl)) (by unfold Func.isWrapper; first | (rw [if_pos (by decide +kernel)]; kernel_rfl) | (rw [if_neg (by decide +kernel)]; exact ⟨rfl, rfl⟩))
    (fun os started H enc _ => lifted os started H enc)

theorem proved : Rows.TreeStepsSaid :=
  over
#print axioms proved


end Go.Proofs.Ythhboidjibdahaa.treeSteps
