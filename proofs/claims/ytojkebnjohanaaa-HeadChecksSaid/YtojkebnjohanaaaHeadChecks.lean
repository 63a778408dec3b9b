/-
  Whether any words over a formatted segment leave it checked. The statement HeadChecks, for every number, and every list of pairs; no condition.
-/
import Derived.Test.YtojkebnjohanaaaHeadG
import Derived.Test.YtojkebnjohanaaaPutO
import Derived.StillTailTactics
namespace Go.Proofs.Ytojkebnjohanaaa.headChecks
open Go.ChangeShapes Go.WideShapes Go.ChangeAt Go.RowKit
set_option linter.unusedVariables false
set_option linter.unusedSimpArgs false

theorem chk_apply {ws : List Nat} {l : List (Nat × Nat)} (h : TxOk ws l) : chkN (txApply ws l) [] = chkN ws l := by
  have e : chkP (txApply ws l) [] ↔ chkP ws l := by
    unfold chkP
    rw [see_nil, see_nil, see_nil, see_nil, apply_get h, apply_get h, apply_get h, apply_get h, txApply_len]
  unfold chkN
  by_cases hc : chkP ws l
  · rw [if_pos hc, if_pos (e.2 hc)]
  · rw [if_neg hc, if_neg (fun hh => hc (e.1 hh))]
/-- k pairs are thought of. -/
def Think (w0 w : World) (T M B D : Nat) (ws : List Nat) (l : List (Nat × Nat)) : Prop := ∃ R, Txs w0 w T M R B D ws l
set_option maxHeartbeats 2000000 in
theorem walk_core (n : Nat) (hn : n < 18446744073709551616) {la : Option Addr} {m c : Nat} {X V : Nat → Nat} (hm : m ≤ maxLen) {w : World} (hp : PutsAt w la m X V) :
    Calls Try.prog 5 #[.int .u64 n, .slice la m c] w fun e w' => e = .returned (.bool true) ∧ w.grownBy w' none := by
  unfold maxLen at hm
  have hfm := fun (w : World) (B D : Nat) (hs : IsSeg w B D (List.replicate 600 0)) => format_any hs n hn
  have hlen := len48 n
  obtain ⟨ws, hws⟩ : ∃ ws, fmt (List.replicate 600 0) n = ws := ⟨_, rfl⟩
  obtain ⟨fc, hfc⟩ : ∃ fc, fmtE (List.replicate 600 0) n = fc := ⟨_, rfl⟩
  rw [hws] at hfm hlen
  rw [hfc] at hfm
  clear hws hfc
  go_enter Try.func5, Try.ntmps5
  go_wp2_with (first | (go_at_call 9; ((with_reducible refine (awake4 _).mono ?_); rintro e w1 ⟨rfl, hg1⟩)) | (go_at_call 10; ((with_reducible refine (new48 _).mono ?_); rintro e w2 ⟨rfl, hg2, hs2⟩)) | (go_at_call 11; ((with_reducible refine (hfm _ _ _ hs2).mono ?_); rintro e w4 ⟨rfl, hg4, hs4⟩)) | (go_at_call 19; ((with_reducible refine (txnew_yes hs4).mono ?_); rintro e w5 ⟨rfl, hg5, ht5⟩)))
  have X5 := Txs.first hg1 hg2 hs2 hg4 hg5 ht5
  have R0 : Think w w5 (w4.heap.size + 1) w4.heap.size (w1.heap.size + 1) w1.heap.size ws (thinkL ws X V 0) := ⟨_, X5⟩
  have hws : ∀ x ∈ ws, x < 18446744073709551616 := hs4.words
  clear X5 ht5 hs4 hs2 hg4 hg5 hg2
  obtain ⟨T, hT⟩ : ∃ T, w4.heap.size + 1 = T := ⟨_, rfl⟩
  obtain ⟨M, hM⟩ : ∃ M, w4.heap.size = M := ⟨_, rfl⟩
  obtain ⟨B, hB⟩ : ∃ B, w1.heap.size + 1 = B := ⟨_, rfl⟩
  obtain ⟨D, hD⟩ : ∃ D, w1.heap.size = D := ⟨_, rfl⟩
  rw [hT, hM, hB, hD] at R0
  simp only [hT, hB]
  clear hT hM hB hD
  have hok := fun k => thinkL_ok (ws := ws) (X := X) (fun i => (hp.lt i).2) k
  go_loopw [8] (fun i wr => ∃ k : Nat, k ≤ min m 40 ∧ i = .int .i64 k ∧ Think w wr T M B D ws (thinkL ws X V k)) (fun i _ => 40 - (intOf i).toNat)
  case atStart => exact ⟨0, Nat.zero_le _, rfl, R0⟩
  case round =>
    obtain ⟨k, hk, rfl, R, XR⟩ := hrel
    clear R0
    by_cases hlt : k < min m 40
    · have hn0 : k < m := by omega
      have h40 : k < 40 := by omega
      obtain ⟨b, off, rfl, hb, hcs⟩ := (hp.later XR.since).cells (by omega)
      obtain ⟨c1, c2⟩ := hcs k hn0
      clear hcs
      have hx := (hp.lt k).1
      have hv := (hp.lt k).2
      have hq1 : wr.grownBy wr.drew none := grown_drew (grown_refl _ _)
      have XQ := XR.later hq1
      have hst := txstore_any XQ.tx (X k) (V k) hx hv
      go_wp2
      go_still_tail 11, (by kernel_rfl)
      go_wp2_with (go_at_call 20; (with_reducible refine hst.mono ?_); rintro e v2 ⟨rfl, Q⟩)
      obtain ⟨R2, X2, _⟩ := XQ.step Q
      go_roundw
      case rel => exact ⟨k + 1, by omega, by go_num, R2, X2⟩
      case measure => simp [intOf]; omega
    · obtain rfl : k = min m 40 := by omega
      obtain ⟨l, hl⟩ : ∃ l, thinkL ws X V (min m 40) = l := ⟨_, rfl⟩
      have hokl := hok (min m 40)
      rw [hl] at XR hokl
      have hck := hcheck_any XR.tx
      have hap := fun (w : World) (R : Option Nat) (ht : Thinks w T M R B D ws l) => txapply_any ht
      have hal : (txApply ws l).length = 600 := by rw [txApply_len]; exact hlen
      have hca := chk_apply hokl
      obtain ⟨wz, hz⟩ : ∃ wz, txApply ws l = wz := ⟨_, rfl⟩
      rw [hz] at hap hal hca
      have hwd := fun (w : World) (hs : IsSeg w B D wz) => words4_any hs (by omega)
      have hrc := fun (w : World) (base : Nat) (v : Value) (ho : OwnW w base v wz) (hlt : ∀ x ∈ wz, x < 18446744073709551616) => rcheck_any ho (by omega) hlt
      rw [hca] at hrc
      obtain ⟨N, hN⟩ : ∃ N, min m 40 = N := ⟨_, rfl⟩
      rw [hN]
      have hN1 : ¬ N < m ∨ ¬ N < 40 := by omega
      clear hl hz hca hal hok hck hokl hk hlt hlen hws hN
      have hck := hcheck_any XR.tx
      rcases hN1 with hN1 | hN1
      · go_wp2_with (first | (go_at_call 21; ((with_reducible refine (hck).mono ?_); rintro e w6 ⟨rfl, hg6⟩; have X6 := XR.later hg6)) | (go_at_call 22; ((with_reducible refine (hap _ _ X6.tx).mono ?_); rintro e w7 ⟨rfl, hg7, ht7⟩; have X7 := X6.seg hg7 ht7)) | (go_at_call 14; ((with_reducible refine (hwd _ X7.tx.seg).mono ?_); rintro e w8 ⟨v8, rfl, ho8, hg8⟩; have X8 := X7.later hg8)) | (go_at_call 23; ((with_reducible refine (hrc _ _ _ ho8 X8.tx.seg.words).mono ?_); rintro e w9 ⟨rfl, hg9⟩)))
        go_ret
        exact ⟨ret_bool' (by simp), (X8.later hg9).since⟩
      · by_cases hNm : N < m
        · go_wp2_with (first | (go_at_call 21; ((with_reducible refine (hck).mono ?_); rintro e w6 ⟨rfl, hg6⟩; have X6 := XR.later hg6)) | (go_at_call 22; ((with_reducible refine (hap _ _ X6.tx).mono ?_); rintro e w7 ⟨rfl, hg7, ht7⟩; have X7 := X6.seg hg7 ht7)) | (go_at_call 14; ((with_reducible refine (hwd _ X7.tx.seg).mono ?_); rintro e w8 ⟨v8, rfl, ho8, hg8⟩; have X8 := X7.later hg8)) | (go_at_call 23; ((with_reducible refine (hrc _ _ _ ho8 X8.tx.seg.words).mono ?_); rintro e w9 ⟨rfl, hg9⟩)))
          go_ret
          exact ⟨ret_bool' (by simp), (X8.later hg9).since⟩
        · go_wp2_with (first | (go_at_call 21; ((with_reducible refine (hck).mono ?_); rintro e w6 ⟨rfl, hg6⟩; have X6 := XR.later hg6)) | (go_at_call 22; ((with_reducible refine (hap _ _ X6.tx).mono ?_); rintro e w7 ⟨rfl, hg7, ht7⟩; have X7 := X6.seg hg7 ht7)) | (go_at_call 14; ((with_reducible refine (hwd _ X7.tx.seg).mono ?_); rintro e w8 ⟨v8, rfl, ho8, hg8⟩; have X8 := X7.later hg8)) | (go_at_call 23; ((with_reducible refine (hrc _ _ _ ho8 X8.tx.seg.words).mono ?_); rintro e w9 ⟨rfl, hg9⟩)))
          go_ret
          exact ⟨ret_bool' (by simp), (X8.later hg9).since⟩
theorem walk (a : Int) (wa : (Lit.int .u64 a).wf = true) {la : Option Addr} {m c : Nat} {X V : Nat → Nat} (hm : m ≤ maxLen) {w : World} (hp : PutsAt w la m X V) :
    Calls Try.prog 5 #[.int .u64 a, .slice la m c] w fun e w' => e = .returned (.bool true) ∧ Below w.heap.size w w' := by
  have b0 := bounds_u64 wa
  obtain ⟨n, rfl⟩ := Int.eq_ofNat_of_zero_le b0.1
  exact (walk_core n (by omega) hm hp).mono fun e w' ⟨h1, h2⟩ => ⟨h1, grown_below h2⟩

theorem laidOut : laidOutB Try.prog = true := by kernel_rfl
/-! ### The row's step: the guide's frame -/
theorem own : ownKnob Try.prog.godebug = none := by kernel_rfl
set_option maxRecDepth 100000 in
theorem lifted (os : Os) (started : os.Started) (H : Type) (enc : TypeId × Value → H) :
    ReturnsInHanded {} Try.checked os 5 .any (Rows.headChecksSpec.pre6 enc Try.prog Try.f5 Rows.headChecksRow.domain false) (Rows.headChecksSpec.post enc Try.prog Try.f5 false true false false) := by
  refine returnsInHanded_of_change (C := Try.checked) own started (by kernel_rfl) Try.func5
    (ChangeSpec.witness6 (enc := enc) (C := Try.checked) false ⟨#[], #[.int .u64 0, .slice none 0 0], []⟩ 8 (by kernel_rfl) (by kernel_rfl) (by kernel_rfl) (by kernel_rfl)) ?_
  intro W base args ds gs before hval0 hW hcnd _
  have hval : ∀ (j : Nat) t v, Try.f5.params[j]? = some t → args[j]? = some v → Value.okWide Try.prog W .any base t v := hval0
  have hW' := hW
  obtain ⟨p, q, hA0, hV, rfl, hfz, hnd⟩ := hW
  have hA : DataW.TrodAll enc Try.prog W 0 (fun _ => true) true Try.f5.params.toList args.toList ds p := hA0
  rw [Try.params5] at hA hval
  obtain ⟨v0, vs0, d0, ds0, p0, q0, hargs, rfl, rfl, h0, r0⟩ := trodAll_cons hA
  obtain ⟨v1, vs1, d1, ds1, p1, q1, rfl, rfl, rfl, h1, r1⟩ := trodAll_cons r0
  obtain ⟨rfl, rfl, rfl⟩ := trodAll_nil r1
  obtain rfl : args = #[v0, v1] := by cases args; simp_all
  obtain ⟨rfl, rfl⟩ := trodVars_none hV
  obtain ⟨a0, rfl, rfl, rfl, w0⟩ := open_int Try.underlying22 (hval 0 22 v0 rfl rfl) h0
  have lt1 : ∀ x ∈ p1, x.block < W.heap.size := by obtain ⟨m, hm⟩ := h1; exact DataW.trod_lt m _ _ _ hm
  obtain ⟨la1, n1, c1, X1, V1, rfl, hn1, hp1⟩ := open_puts (hval 1 34 v1 rfl rfl) h1
  clear hA0 hval0
  refine (walk a0 w0 hn1 hp1).mono fun e W' ⟨he, bel⟩ => ?_
  subst he
  exact ⟨_, rfl, _, _, _, [], _, [], hW', trodAll_mk1 (shut_bool Try.underlying4 _), (trodAll_cons_mk (shut_int Try.underlying22 w0) (trodAll_cons_mk (Below.trod laidOut (by kernel_rfl) (of_decide_eq_true (by kernel_rfl)) h1 bel lt1) trodAll_mk0)), rfl, bel.frame _, fun h => by cases h⟩

theorem over : Rows.headChecksRow.holds Try.pinned (OpenSpec.ofChange Rows.headChecksSpec) :=
  OpenClaim.holds_of_wide 5 Try.f5 rfl rfl rfl rfl rfl rfl rfl ⟨rfl, rfl, rfl, rfl, rfl⟩ rfl rfl rfl rfl rfl (by kernel_rfl) Try.func5 (by kernel_rfl)
    (of_decide_eq_true (by kernel_rfl)) (by unfold Func.isWrapper; first | (rw [if_pos (by decide +kernel)]; kernel_rfl) | (rw [if_neg (by decide +kernel)]; exact ⟨rfl, rfl⟩))
    (fun os started H enc _ => lifted os started H enc)

theorem proved : Rows.HeadChecksSaid :=
  over
#print axioms proved


end Go.Proofs.Ytojkebnjohanaaa.headChecks
