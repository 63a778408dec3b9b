/-
  The blocks' sizes, all together, are the heap; each begins where the one ahead of it ends. The statement PhysSums, for every list of pieces; no condition.
-/
import Derived.Test.YtmhkibdbamhdoaaPhysP
import Derived.Test.YtmhkibdbamhdoaaPhysQ
import Derived.Test.YtmhkibdbamhdoaaPhysS
import Derived.BigQuiet
import Derived.Test.YtmhkibdbamhdoaaPhysO
namespace Go.Proofs.Ytmhkibdbamhdoaa.physSums
open Go.ChangeShapes Go.WideShapes Go.ChangeAt Go.RowKit
set_option linter.unusedVariables false
set_option linter.unusedSimpArgs false

set_option maxRecDepth 100000 in
set_option maxHeartbeats 8000000 in
theorem core {la : Option Addr} {n c : Nat} {A B C : Nat → Nat} (hc : n ≤ c) (hn : n ≤ maxLen) {w : World} (hp : PiecesAt w la n A B C) :
    Calls Try.prog 5 #[.slice la n c] w fun e w' => e = .returned (.bool true) ∧ w.grownBy w' none := by
  have hla : ∀ (w1 : World) (hg : w.grownBy w1 none), Calls Try.prog 10 #[.slice la n c, .slice none 0 0] w1 (Laid0 w1 (fun _ => 0) (fun _ => 0) (min 0 10)) := fun w1 hg => laid6_any (c2 := 0) (hp.later hg) hc hn (puts_none w1) (by decide)
  have HM := Lib.hid (show min 0 10 = 0 by decide)
  obtain ⟨ws, ews⟩ : ∃ ws, fmt48 4480 = ws := ⟨_, rfl⟩
  have HW := Lib.hid ews
  clear ews hn hp
  go_enter Try.func5, Try.ntmps5
  go_wp2_with (first | (go_at_call 9; ((with_reducible refine (awake6 _).mono ?_); rintro e w1 ⟨rfl, hg1⟩)) | (go_at_call 10; ((with_reducible refine (hla _ hg1).mono ?_); rintro e w2 ⟨l0, N0, hL0, Bb, Db, T, M, R, wv, pv, rfl, X1, hrt, _⟩; obtain ⟨wa, wn, wc, hwv⟩ := wv_form hrt.words; subst hwv; obtain ⟨pa, pn, pc, hpv⟩ := pv_form hrt.puts; subst hpv; have X2 := X1.later (World.grownBy_alloc w2 (.cells #[.slice wa wn wc, .slice pa pn pc] 29) none); obtain ⟨bl, g, hbp, hrow⟩ := hL0.row; rw [HM.out, show thinkF (fmt48 4480) l0 (fun _ => 0) (fun _ => 0) 0 = l0 from rfl] at X2; rw [HW.out] at X2 hbp; have hwk : ∀ (w : World) (T M : Nat) (R : Option Nat) (B D : Nat) (h : Thinks w T M R B D ws l0), Calls Try.prog 11 #[.pointer (some ⟨T, 0, none⟩)] w fun e w' => ∃ v, e = .returned (.tuple #[v, .int .i64 0]) ∧ OwnB w' w.heap.size 42 v bl ∧ w.grownBy w' none := (fun w T M R B D h => pwalk_any h hbp);  have hN0 : N0 ≤ 1000000 := (by have := hbp.len; rw [hrow.len] at this; exact this); have HR := Lib.hid hrow; have HK := Lib.hid hrow.len; clear hrt X1 hL0 hbp hrow)) | (go_at_call 11; ((with_reducible refine (hwk _ _ _ _ _ _ X2.tx).mono ?_); rintro e w3 ⟨v3, rfl, ho3, hg3⟩; obtain ⟨la3, c3, hv3, hat3⟩ := ho3.at_; rw [HK.out] at hv3; subst hv3; have X3 := X2.later hg3)))
  have hend := grown_trans hg1 X3.since
  obtain ⟨hlen, hpos, hfirst, hlast, hoff, hsize, hstep, hle⟩ := HR.out
  go_loop [8, 9] (fun o i => ∃ k : Nat, k ≤ N0 ∧ o = .int .u64 (g k : Nat) ∧ i = .int .i64 k) (fun _ i => N0 - (intOf i).toNat)
  case atStart => exact ⟨0, Nat.zero_le _, by rw [hfirst]; rfl, rfl⟩
  case round =>
    obtain ⟨k, hk, rfl, rfl⟩ := hrel
    rcases Nat.lt_or_ge k N0 with h1 | h1
    · obtain ⟨b, off, rfl, hb, hcs⟩ := hat3.cells (by omega)
      obtain ⟨c0, c1, _, _, _⟩ := hcs k (by omega)
      have hs := hsize k h1
      have hl1 := hle (k + 1) (by omega)
      rw [hoff k h1] at c0
      obtain ⟨x, ex⟩ : ∃ x, g k = x := ⟨_, rfl⟩
      obtain ⟨y, ey⟩ : ∃ y, g (k + 1) = y := ⟨_, rfl⟩
      obtain ⟨s, es⟩ : ∃ s, gS bl k = s := ⟨_, rfl⟩
      rw [ex] at c0 hs ⊢
      rw [ey] at hs hl1
      rw [es] at c1 hs
      have e1 : IntKind.u64.wrap ((x : Int) + (s : Int)) = (y : Nat) := by rw [IntKind.wrap_u64]; omega
      have e2 : ((x : Int) != (x : Int)) = false := by simp
      have HY := Lib.hid ey
      clear hcs hoff hsize hstep hle hlen hpos hfirst hlast es ex ey hat3
      go_wp2
      go_round
      case rel => exact ⟨k + 1, by omega, by rw [HY.out], by go_num⟩
      case measure => simp [intOf]; omega
    · obtain rfl : k = N0 := by omega
      rw [hlast]
      clear hoff hsize hstep hle hlen hpos hfirst hlast hat3
      go_wp2
      go_ret
      exact ⟨ret_bool' (by simp), hend⟩
theorem walk {la : Option Addr} {n c : Nat} {A B C : Nat → Nat} (hc : n ≤ c) (hn : n ≤ maxLen) {w : World} (hp : PiecesAt w la n A B C) :
    Calls Try.prog 5 #[.slice la n c] w fun e w' => e = .returned (.bool true) ∧ Below w.heap.size w w' :=
  (core hc hn hp).mono fun e w' ⟨h1, h2⟩ => ⟨h1, grown_below h2⟩

theorem laidOut : laidOutB Try.prog = true := by kernel_rfl
/-! ### The row's step: the guide's frame -/
theorem own : ownKnob Try.prog.godebug = none := by kernel_rfl
set_option maxRecDepth 100000 in
theorem lifted (os : Os) (started : os.Started) (H : Type) (enc : TypeId × Value → H) :
    ReturnsInHanded {} Try.checked os 5 .any (Rows.physSumsSpec.pre6 enc Try.prog Try.f5 Rows.physSumsRow.domain false) (Rows.physSumsSpec.post enc Try.prog Try.f5 false true false false) := by
  refine returnsInHanded_of_change (C := Try.checked) own started (by kernel_rfl) Try.func5
    (ChangeSpec.witness6 (enc := enc) (C := Try.checked) false ⟨#[], #[.slice none 0 0], []⟩ 8 (by kernel_rfl) (by kernel_rfl) (by kernel_rfl) (by kernel_rfl)) ?_
  intro W base args ds gs before hval0 hW hcnd _
  have hval : ∀ (j : Nat) t v, Try.f5.params[j]? = some t → args[j]? = some v → Value.okWide Try.prog W .any base t v := hval0
  have hW' := hW
  obtain ⟨p, q, hA0, hV, rfl, hfz, hnd⟩ := hW
  have hA : DataW.TrodAll enc Try.prog W 0 (fun _ => true) true Try.f5.params.toList args.toList ds p := hA0
  rw [Try.params5] at hA hval
  obtain ⟨v0, vs0, d0, ds0, p0, q0, hargs, rfl, rfl, h0, r0⟩ := trodAll_cons hA
  obtain ⟨rfl, rfl, rfl⟩ := trodAll_nil r0
  obtain rfl : args = #[v0] := by cases args; simp_all
  obtain ⟨rfl, rfl⟩ := trodVars_none hV
  have lt0 : ∀ x ∈ p0, x.block < W.heap.size := by obtain ⟨m, hm⟩ := h0; exact DataW.trod_lt m _ _ _ hm
  obtain ⟨la0, n0, c0, A0, B0, C0, rfl, hc0, hn0, hp0⟩ := open_pieces (hval 0 22 v0 rfl rfl) h0
  clear hA0 hval0
  refine (walk hc0 hn0 hp0).mono fun e W' ⟨he, bel⟩ => ?_
  subst he
  exact ⟨_, rfl, _, _, _, [], _, [], hW', trodAll_mk1 (shut_bool Try.underlying4 _), (trodAll_cons_mk (Below.trod laidOut (by kernel_rfl) (of_decide_eq_true (by kernel_rfl)) h0 bel lt0) trodAll_mk0), rfl, bel.frame _, fun h => by cases h⟩

theorem over : Rows.physSumsRow.holds Try.pinned (OpenSpec.ofChange Rows.physSumsSpec) :=
  OpenClaim.holds_of_wide 5 Try.f5 rfl rfl rfl rfl rfl rfl rfl ⟨rfl, rfl, rfl, rfl, rfl⟩ rfl rfl rfl rfl rfl (by kernel_rfl) Try.func5 (by kernel_rfl)
    (of_decide_eq_true (by kernel_rfl)) (by unfold Func.isWrapper; first | (rw [if_pos (by decide +kernel)]; kernel_rfl) | (rw [if_neg (by decide +kernel)]; exact ⟨rfl, rfl⟩))
    (fun os started H enc _ => lifted os started H enc)

theorem proved : Rows.PhysSumsSaid :=
  over
#print axioms proved


end Go.Proofs.Ytmhkibdbamhdoaa.physSums
