/-
  Each used block is found by its payload, and no other one; free ones, and what is within one, aren't. The statement PhysFinds, for every list of pieces, and every byte; no condition.
-/
import Derived.Test.YtmhkibdbamhdoaaPhysP
import Derived.Test.YtmhkibdbamhdoaaPhysQ
import Derived.Test.YtmhkibdbamhdoaaPhysS
import Derived.BigQuiet
import Derived.Test.YtmhkibdbamhdoaaPhysO
namespace Go.Proofs.Ytmhkibdbamhdoaa.physFinds
open Go.ChangeShapes Go.WideShapes Go.ChangeAt Go.RowKit
set_option linter.unusedVariables false
set_option linter.unusedSimpArgs false

set_option maxRecDepth 100000 in
set_option maxHeartbeats 8000000 in
theorem core {la : Option Addr} {n c : Nat} {A B C : Nat → Nat} (hc : n ≤ c) (hn : n ≤ maxLen) (mo : Nat) (hmo : mo < 256) {w : World} (hp : PiecesAt w la n A B C) :
    Calls Try.prog 6 #[.slice la n c, .int .u8 mo] w fun e w' => e = .returned (.bool true) ∧ w.grownBy w' none := by
  have hla : ∀ (w1 : World) (hg : w.grownBy w1 none), Calls Try.prog 10 #[.slice la n c, .slice none 0 0] w1 (Laid0 w1 (fun _ => 0) (fun _ => 0) (min 0 10)) := fun w1 hg => laid6_any (c2 := 0) (hp.later hg) hc hn (puts_none w1) (by decide)
  have HM := Lib.hid (show min 0 10 = 0 by decide)
  obtain ⟨ws, ews⟩ : ∃ ws, fmt48 4480 = ws := ⟨_, rfl⟩
  have HW := Lib.hid ews
  clear ews hn hp
  go_enter Try.func6, Try.ntmps6
  go_wp2_with (first | (go_at_call 9; ((with_reducible refine (awake6 _).mono ?_); rintro e w1 ⟨rfl, hg1⟩)) | (go_at_call 10; ((with_reducible refine (hla _ hg1).mono ?_); rintro e w2 ⟨l0, N0, hL0, Bb, Db, T, M, R, wv, pv, rfl, X1, hrt, _⟩; obtain ⟨wa, wn, wc, hwv⟩ := wv_form hrt.words; subst hwv; obtain ⟨pa, pn, pc, hpv⟩ := pv_form hrt.puts; subst hpv; have X2 := X1.later (World.grownBy_alloc w2 (.cells #[.slice wa wn wc, .slice pa pn pc] 29) none); obtain ⟨bl, g, hbp, hrow⟩ := hL0.row; rw [HM.out, show thinkF (fmt48 4480) l0 (fun _ => 0) (fun _ => 0) 0 = l0 from rfl] at X2; rw [HW.out] at X2 hbp; have hwk : ∀ (w : World) (T M : Nat) (R : Option Nat) (B D : Nat) (h : Thinks w T M R B D ws l0), Calls Try.prog 11 #[.pointer (some ⟨T, 0, none⟩)] w fun e w' => ∃ v, e = .returned (.tuple #[v, .int .i64 0]) ∧ OwnB w' w.heap.size 42 v bl ∧ w.grownBy w' none := (fun w T M R B D h => pwalk_any h hbp); have hfd := fun (off : Nat) (w : World) (T M : Nat) (R : Option Nat) (B D : Nat) (h : Thinks w T M R B D ws l0) => pfind_any h hbp off; have hN0 : N0 ≤ 1000000 := (by have := hbp.len; rw [hrow.len] at this; exact this); have HR := Lib.hid hrow; have HK := Lib.hid hrow.len; clear hrt X1 hL0 hbp hrow)) | (go_at_call 11; ((with_reducible refine (hwk _ _ _ _ _ _ X2.tx).mono ?_); rintro e w3 ⟨v3, rfl, ho3, hg3⟩; obtain ⟨la3, c3, hv3, hat3⟩ := ho3.at_; rw [HK.out] at hv3; subst hv3; have X3 := X2.later hg3)))
  have hend := grown_trans hg1 X3.since
  go_loopw [10] (fun i wr => ∃ k : Nat, k ≤ N0 ∧ i = .int .i64 k ∧ w3.grownBy wr none) (fun i _ => N0 - (intOf i).toNat)
  case atStart => exact ⟨0, Nat.zero_le _, rfl, grown_refl _ _⟩
  case round =>
    obtain ⟨k, hk, rfl, hg⟩ := hrel
    rcases Nat.lt_or_ge k N0 with h1 | h1
    · have hrow := HR.out
      have hbl : bl.length = N0 := hrow.len
      have hl1 := hrow.le k (by omega)
      have ho := hrow.off k h1
      obtain ⟨m, em⟩ : ∃ m, mo % 15 = m := ⟨_, rfl⟩
      have em' : (mo : Int) % 15 = (m : Nat) := by omega
      have hm15 : m < 15 := by omega
      have hw0 := hfd (g k + 33 + m)
      unfold besB at hw0
      rw [hrow.within h1 hm15] at hw0
      have hW : ∀ (w : World) (T M : Nat) (R : Option Nat) (B D : Nat) (h : Thinks w T M R B D ws l0), Calls Try.prog 13 #[.pointer (some ⟨T, 0, none⟩), .int .u64 (g k + 33 + m : Nat)] w fun e w' => e = .returned (.tuple #[.agg #[.int .u64 0, .int .u64 0, .bool false, .int .i64 0, .int .u64 0], .bool false]) ∧ w.grownBy w' none := hw0
      have hf0 := hfd (g k + 32)
      unfold besB at hf0
      obtain ⟨b, off, rfl, hb, hcs⟩ := (hat3.later hg).cells (by omega)
      obtain ⟨c0, c1, c2, c3, c4⟩ := hcs k (by omega)
      rw [ho] at c0
      obtain ⟨x, ex⟩ : ∃ x, g k = x := ⟨_, rfl⟩
      obtain ⟨p1, ep1⟩ : ∃ p1, x + 32 = p1 := ⟨_, rfl⟩
      obtain ⟨p3, ep3⟩ : ∃ p3, p1 + 1 = p3 := ⟨_, rfl⟩
      obtain ⟨p2, ep2⟩ : ∃ p2, p3 + m = p2 := ⟨_, rfl⟩
      have q1 : (x : Int) + 32 = (p1 : Nat) := by omega
      have q2 : (p1 : Int) + 1 = (p3 : Nat) := by omega
      have q3 : (p3 : Int) + (m : Nat) = (p2 : Nat) := by omega
      have hp4 : p2 < 5000 ∧ p1 < 5000 ∧ p3 < 5000 := by omega
      obtain ⟨hp5, hp6, hp7⟩ := hp4
      rw [ex, show x + 33 + m = p2 by omega] at hW
      have hW2 := hW
      cases hu : gU bl k with
      | false =>
        rw [hrow.find_not h1 hu, ex, ep1] at hf0
        have hF : ∀ (w : World) (T M : Nat) (R : Option Nat) (B D : Nat) (h : Thinks w T M R B D ws l0), Calls Try.prog 13 #[.pointer (some ⟨T, 0, none⟩), .int .u64 (p1 : Nat)] w fun e w' => e = .returned (.tuple #[.agg #[.int .u64 0, .int .u64 0, .bool false, .int .i64 0, .int .u64 0], .bool false]) ∧ w.grownBy w' none := hf0
        obtain ⟨P1, eP1⟩ : ∃ x, gS bl k = x := ⟨_, rfl⟩
        obtain ⟨P3, eP3⟩ : ∃ x, gW bl k = x := ⟨_, rfl⟩
        obtain ⟨P4, eP4⟩ : ∃ x, gN bl k = x := ⟨_, rfl⟩
        rw [ex] at c0
        rw [eP1] at c1
        rw [hu] at c2
        rw [eP3] at c3
        rw [eP4] at c4
        have hcell : ∀ {wq : World}, wr.grownBy wq none → wq.cell? ⟨b, off + k * 5, none⟩ = some (.int .u64 (x : Nat)) ∧ wq.cell? ⟨b, off + k * 5 + 1, none⟩ = some (.int .u64 (P1 : Nat)) ∧ wq.cell? ⟨b, off + k * 5 + 2, none⟩ = some (.bool false) ∧ wq.cell? ⟨b, off + k * 5 + 3, none⟩ = some (.int .i64 P3) ∧ wq.cell? ⟨b, off + k * 5 + 4, none⟩ = some (.int .u64 (P4 : Nat)) := fun {wq} hq => by
          have q1 := hq.block b hb (by simp)
          have K1 : ∀ {i v}, wr.cell? ⟨b, i, none⟩ = some v → wq.cell? ⟨b, i, none⟩ = some v := fun {i v} hv => (World.cell?_of_block (w := wr) (a := ⟨b, i, none⟩) q1).trans hv
          exact ⟨K1 c0, K1 c1, K1 c2, K1 c3, K1 c4⟩
        have HC := Lib.hid (fun (wq : World) (hq : wr.grownBy wq none) => hcell hq)
        clear hcell
        clear hrow hbl ho em ex ep1 ep2 ep3 hw0 hf0 hcs hu eP1 eP3 eP4 hat3 hfd hW hl1
        go_wp2_with (go_at_call 13; ((with_reducible refine (hF _ _ _ _ _ _ (X3.later hg).tx).mono ?_); rintro e w4 ⟨rfl, hg4⟩; have ha4 := World.grownBy_alloc w4 (.cells #[.int .u64 0, .int .u64 0, .bool false, .int .i64 0, .int .u64 0] 42) none; have G4 := grown_trans hg4 ha4; clear c0 c1 c2 c3 c4; obtain ⟨c0, c1, c2, c3, c4⟩ := HC.out _ G4; obtain ⟨y0, y1, y2, y3, y4⟩ := five_cells (five_first (grown_refl (w4.alloc (.cells #[.int .u64 0, .int .u64 0, .bool false, .int .i64 0, .int .u64 0] 42)) none))))
        go_quiet (fail)
        obtain ⟨w5, hw5⟩ : ∃ w5, w5 = (w4.alloc (.cells #[.int .u64 0, .int .u64 0, .bool false, .int .i64 0, .int .u64 0] 42)).drewN nq := ⟨_, rfl⟩
        have hq5 : (w4.alloc (.cells #[.int .u64 0, .int .u64 0, .bool false, .int .i64 0, .int .u64 0] 42)).grownBy w5 none := by rw [hw5]; exact grown_drewN _ _
        rw [← hw5]
        clear hw5 y0 y1 y2 y3 y4 c0 c1 c2 c3 c4
        have G5 := grown_trans G4 hq5
        obtain ⟨c0, c1, c2, c3, c4⟩ := HC.out _ G5
        go_wp2_with (go_at_call 13; ((with_reducible refine (hW2 _ _ _ _ _ _ (X3.later (grown_trans hg G5)).tx).mono ?_); rintro e w6 ⟨rfl, hg6⟩; have ha6 := World.grownBy_alloc w6 (.cells #[.int .u64 0, .int .u64 0, .bool false, .int .i64 0, .int .u64 0] 42) none; have G6 := grown_trans G5 (grown_trans hg6 ha6)))
        go_roundw
        case rel => exact ⟨k + 1, by omega, by go_num, grown_trans hg G6⟩
        case measure => simp [intOf]; omega
      | true =>
        rw [hrow.find h1 hu, ex, ep1] at hf0
        have hF' : ∀ (w : World) (T M : Nat) (R : Option Nat) (B D : Nat) (h : Thinks w T M R B D ws l0), Calls Try.prog 13 #[.pointer (some ⟨T, 0, none⟩), .int .u64 (p1 : Nat)] w fun e w' => e = .returned (.tuple #[.agg #[.int .u64 (gO bl k : Nat), .int .u64 (gS bl k : Nat), .bool (gU bl k), .int .i64 (gW bl k), .int .u64 (gN bl k : Nat)], .bool true]) ∧ w.grownBy w' none := hf0
        have hF := hF'
        obtain ⟨P1, eP1⟩ : ∃ x, gS bl k = x := ⟨_, rfl⟩
        obtain ⟨P3, eP3⟩ : ∃ x, gW bl k = x := ⟨_, rfl⟩
        obtain ⟨P4, eP4⟩ : ∃ x, gN bl k = x := ⟨_, rfl⟩
        rw [ho, ex, eP1, hu, eP3, eP4] at hF
        rw [ex] at c0
        rw [eP1] at c1
        rw [hu] at c2
        rw [eP3] at c3
        rw [eP4] at c4
        have hcell : ∀ {wq : World}, wr.grownBy wq none → wq.cell? ⟨b, off + k * 5, none⟩ = some (.int .u64 (x : Nat)) ∧ wq.cell? ⟨b, off + k * 5 + 1, none⟩ = some (.int .u64 (P1 : Nat)) ∧ wq.cell? ⟨b, off + k * 5 + 2, none⟩ = some (.bool true) ∧ wq.cell? ⟨b, off + k * 5 + 3, none⟩ = some (.int .i64 P3) ∧ wq.cell? ⟨b, off + k * 5 + 4, none⟩ = some (.int .u64 (P4 : Nat)) := fun {wq} hq => by
          have q1 := hq.block b hb (by simp)
          have K1 : ∀ {i v}, wr.cell? ⟨b, i, none⟩ = some v → wq.cell? ⟨b, i, none⟩ = some v := fun {i v} hv => (World.cell?_of_block (w := wr) (a := ⟨b, i, none⟩) q1).trans hv
          exact ⟨K1 c0, K1 c1, K1 c2, K1 c3, K1 c4⟩
        have HC := Lib.hid (fun (wq : World) (hq : wr.grownBy wq none) => hcell hq)
        clear hcell
        clear hrow hbl ho em ex ep1 ep2 ep3 hw0 hf0 hcs hu eP1 eP3 eP4 hat3 hfd hW hF' hl1
        go_wp2_with (go_at_call 13; ((with_reducible refine (hF _ _ _ _ _ _ (X3.later hg).tx).mono ?_); rintro e w4 ⟨rfl, hg4⟩; have ha4 := World.grownBy_alloc w4 (.cells #[.int .u64 (x : Nat), .int .u64 (P1 : Nat), .bool true, .int .i64 P3, .int .u64 (P4 : Nat)] 42) none; have G4 := grown_trans hg4 ha4; clear c0 c1 c2 c3 c4; obtain ⟨c0, c1, c2, c3, c4⟩ := HC.out _ G4; obtain ⟨y0, y1, y2, y3, y4⟩ := five_cells (five_first (grown_refl (w4.alloc (.cells #[.int .u64 (x : Nat), .int .u64 (P1 : Nat), .bool true, .int .i64 P3, .int .u64 (P4 : Nat)] 42)) none))))
        go_quiet (fail)
        obtain ⟨w5, hw5⟩ : ∃ w5, w5 = (w4.alloc (.cells #[.int .u64 (x : Nat), .int .u64 (P1 : Nat), .bool true, .int .i64 P3, .int .u64 (P4 : Nat)] 42)).drewN nq := ⟨_, rfl⟩
        have hq5 : (w4.alloc (.cells #[.int .u64 (x : Nat), .int .u64 (P1 : Nat), .bool true, .int .i64 P3, .int .u64 (P4 : Nat)] 42)).grownBy w5 none := by rw [hw5]; exact grown_drewN _ _
        rw [← hw5]
        clear hw5 y0 y1 y2 y3 y4 c0 c1 c2 c3 c4
        have G5 := grown_trans G4 hq5
        obtain ⟨c0, c1, c2, c3, c4⟩ := HC.out _ G5
        go_wp2_with (go_at_call 13; ((with_reducible refine (hW2 _ _ _ _ _ _ (X3.later (grown_trans hg G5)).tx).mono ?_); rintro e w6 ⟨rfl, hg6⟩; have ha6 := World.grownBy_alloc w6 (.cells #[.int .u64 0, .int .u64 0, .bool false, .int .i64 0, .int .u64 0] 42) none; have G6 := grown_trans G5 (grown_trans hg6 ha6)))
        go_roundw
        case rel => exact ⟨k + 1, by omega, by go_num, grown_trans hg G6⟩
        case measure => simp [intOf]; omega
    · obtain rfl : k = N0 := by omega
      clear hat3 hfd
      go_wp2
      go_ret
      exact ⟨ret_bool' (by first | (simp; done) | (simp; omega)), grown_trans hend hg⟩
theorem walk {la : Option Addr} {n c : Nat} {A B C : Nat → Nat} (hc : n ≤ c) (hn : n ≤ maxLen) {w : World} (hp : PiecesAt w la n A B C) (b : Int) (wb : (Lit.int .u8 b).wf = true) :
    Calls Try.prog 6 #[.slice la n c, .int .u8 b] w fun e w' => e = .returned (.bool true) ∧ Below w.heap.size w w' := by
  have b1 := bounds_u8 wb
  obtain ⟨mo, rfl⟩ := Int.eq_ofNat_of_zero_le b1.1
  exact (core hc hn mo (by omega) hp).mono fun e w' ⟨h1, h2⟩ => ⟨h1, grown_below h2⟩

theorem laidOut : laidOutB Try.prog = true := by kernel_rfl
/-! ### The row's step: the guide's frame -/
theorem own : ownKnob Try.prog.godebug = none := by kernel_rfl
set_option maxRecDepth 100000 in
theorem lifted (os : Os) (started : os.Started) (H : Type) (enc : TypeId × Value → H) :
    ReturnsInHanded {} Try.checked os 6 .any (Rows.physFindsSpec.pre6 enc Try.prog Try.f6 Rows.physFindsRow.domain false) (Rows.physFindsSpec.post enc Try.prog Try.f6 false true false false) := by
  refine returnsInHanded_of_change (C := Try.checked) own started (by kernel_rfl) Try.func6
    (ChangeSpec.witness6 (enc := enc) (C := Try.checked) false ⟨#[], #[.slice none 0 0, .int .u8 0], []⟩ 8 (by kernel_rfl) (by kernel_rfl) (by kernel_rfl) (by kernel_rfl)) ?_
  intro W base args ds gs before hval0 hW hcnd _
  have hval : ∀ (j : Nat) t v, Try.f6.params[j]? = some t → args[j]? = some v → Value.okWide Try.prog W .any base t v := hval0
  have hW' := hW
  obtain ⟨p, q, hA0, hV, rfl, hfz, hnd⟩ := hW
  have hA : DataW.TrodAll enc Try.prog W 0 (fun _ => true) true Try.f6.params.toList args.toList ds p := hA0
  rw [Try.params6] at hA hval
  obtain ⟨v0, vs0, d0, ds0, p0, q0, hargs, rfl, rfl, h0, r0⟩ := trodAll_cons hA
  obtain ⟨v1, vs1, d1, ds1, p1, q1, rfl, rfl, rfl, h1, r1⟩ := trodAll_cons r0
  obtain ⟨rfl, rfl, rfl⟩ := trodAll_nil r1
  obtain rfl : args = #[v0, v1] := by cases args; simp_all
  obtain ⟨rfl, rfl⟩ := trodVars_none hV
  have lt0 : ∀ x ∈ p0, x.block < W.heap.size := by obtain ⟨m, hm⟩ := h0; exact DataW.trod_lt m _ _ _ hm
  obtain ⟨la0, n0, c0, A0, B0, C0, rfl, hc0, hn0, hp0⟩ := open_pieces (hval 0 22 v0 rfl rfl) h0
  obtain ⟨a1, rfl, rfl, rfl, w1⟩ := open_int Try.underlying5 (hval 1 5 v1 rfl rfl) h1
  clear hA0 hval0
  refine (walk hc0 hn0 hp0 a1 w1).mono fun e W' ⟨he, bel⟩ => ?_
  subst he
  exact ⟨_, rfl, _, _, _, [], _, [], hW', trodAll_mk1 (shut_bool Try.underlying4 _), (trodAll_cons_mk (Below.trod laidOut (by kernel_rfl) (of_decide_eq_true (by kernel_rfl)) h0 bel lt0) (trodAll_cons_mk (shut_int Try.underlying5 w1) trodAll_mk0)), rfl, bel.frame _, fun h => by cases h⟩

theorem over : Rows.physFindsRow.holds Try.pinned (OpenSpec.ofChange Rows.physFindsSpec) :=
  OpenClaim.holds_of_wide 6 Try.f6 rfl rfl rfl rfl rfl rfl rfl ⟨rfl, rfl, rfl, rfl, rfl⟩ rfl rfl rfl rfl rfl (by kernel_rfl) Try.func6 (by kernel_rfl)
    (of_decide_eq_true (by kernel_rfl)) (by unfold Func.isWrapper; first | (rw [if_pos (by decide +kernel)]; kernel_rfl) | (rw [if_neg (by decide +kernel)]; exact ⟨rfl, rfl⟩))
    (fun os started H enc _ => lifted os started H enc)

theorem proved : Rows.PhysFindsSaid :=
  over
#print axioms proved


end Go.Proofs.Ytmhkibdbamhdoaa.physFinds
