/-
  Who stands behind a block has it ahead of it, and the other way round. The statement PhysTurn, for every list of pieces; no condition.
-/
import Derived.Test.YtmhkibdbamhdoaaPhysP
import Derived.Test.YtmhkibdbamhdoaaPhysQ
import Derived.Test.YtmhkibdbamhdoaaPhysS
import Derived.BigQuiet
import Derived.Test.YtmhkibdbamhdoaaPhysO
namespace Go.Proofs.Ytmhkibdbamhdoaa.physTurn
open Go.ChangeShapes Go.WideShapes Go.ChangeAt Go.RowKit
set_option linter.unusedVariables false
set_option linter.unusedSimpArgs false

set_option maxRecDepth 100000 in
set_option maxHeartbeats 8000000 in
theorem core {la : Option Addr} {n c : Nat} {A B C : Nat → Nat} (hc : n ≤ c) (hn : n ≤ maxLen) {w : World} (hp : PiecesAt w la n A B C) :
    Calls Try.prog 8 #[.slice la n c] w fun e w' => e = .returned (.bool true) ∧ w.grownBy w' none := by
  have hla : ∀ (w1 : World) (hg : w.grownBy w1 none), Calls Try.prog 10 #[.slice la n c, .slice none 0 0] w1 (Laid0 w1 (fun _ => 0) (fun _ => 0) (min 0 10)) := fun w1 hg => laid6_any (c2 := 0) (hp.later hg) hc hn (puts_none w1) (by decide)
  have HM := Lib.hid (show min 0 10 = 0 by decide)
  obtain ⟨ws, ews⟩ : ∃ ws, fmt48 4480 = ws := ⟨_, rfl⟩
  have HW := Lib.hid ews
  clear ews hn hp
  go_enter Try.func8, Try.ntmps8
  go_wp2_with (first | (go_at_call 9; ((with_reducible refine (awake6 _).mono ?_); rintro e w1 ⟨rfl, hg1⟩)) | (go_at_call 10; ((with_reducible refine (hla _ hg1).mono ?_); rintro e w2 ⟨l0, N0, hL0, Bb, Db, T, M, R, wv, pv, rfl, X1, hrt, _⟩; obtain ⟨wa, wn, wc, hwv⟩ := wv_form hrt.words; subst hwv; obtain ⟨pa, pn, pc, hpv⟩ := pv_form hrt.puts; subst hpv; have X2 := X1.later (World.grownBy_alloc w2 (.cells #[.slice wa wn wc, .slice pa pn pc] 29) none); obtain ⟨bl, g, hbp, hrow⟩ := hL0.row; rw [HM.out, show thinkF (fmt48 4480) l0 (fun _ => 0) (fun _ => 0) 0 = l0 from rfl] at X2; rw [HW.out] at X2 hbp; have hwk : ∀ (w : World) (T M : Nat) (R : Option Nat) (B D : Nat) (h : Thinks w T M R B D ws l0), Calls Try.prog 11 #[.pointer (some ⟨T, 0, none⟩)] w fun e w' => ∃ v, e = .returned (.tuple #[v, .int .i64 0]) ∧ OwnB w' w.heap.size 42 v bl ∧ w.grownBy w' none := (fun w T M R B D h => pwalk_any h hbp);  have hN0 : N0 ≤ 1000000 := (by have := hbp.len; rw [hrow.len] at this; exact this); have HR := Lib.hid hrow; have HK := Lib.hid hrow.len; clear hrt X1 hL0 hbp hrow)) | (go_at_call 11; ((with_reducible refine (hwk _ _ _ _ _ _ X2.tx).mono ?_); rintro e w3 ⟨v3, rfl, ho3, hg3⟩; obtain ⟨la3, c3, hv3, hat3⟩ := ho3.at_; rw [HK.out] at hv3; subst hv3; have X3 := X2.later hg3)))
  have hend := grown_trans hg1 X3.since
  have hpos' : (0 : Int) < (N0 : Int) := by have := HR.out.pos; omega
  go_loopw [8] (fun i wr => ∃ k : Nat, k ≤ N0 ∧ i = .int .i64 k ∧ w3.grownBy wr none) (fun i _ => N0 - (intOf i).toNat)
  case atStart => exact ⟨0, Nat.zero_le _, rfl, grown_refl _ _⟩
  case round =>
    obtain ⟨k, hk, rfl, hg⟩ := hrel
    rcases Nat.lt_or_ge k N0 with h1 | h1
    · have hrow := HR.out
      have hbl : bl.length = N0 := hrow.len
      have hlen : bl.length ≤ 1000000 := by rw [hrow.len]; exact hN0
      have hA := fun (w : World) (la : Option Addr) (c : Nat) (h : BlksAt w la bl) => after_any (c := c) h hlen (g k)
      have hs := hrow.size k h1
      have hl1 := hrow.le (k + 1) (by omega)
      have ho := hrow.off k h1
      unfold besB at hA
      by_cases hk1 : k + 1 < N0
      · have hB := fun (w : World) (la : Option Addr) (c : Nat) (h : BlksAt w la bl) => before_any (c := c) h hlen (g (k + 1))
        have ho1 := hrow.off (k + 1) hk1
        unfold besB at hB
        rw [hrow.after h1, if_pos hk1] at hA
        rw [hrow.before hk1] at hB
        have hA' : ∀ (w : World) (la : Option Addr) (c : Nat) (h : BlksAt w la bl), Calls Try.prog 20 #[.slice la bl.length c, .int .u64 (g k : Nat)] w fun e w' => e = .returned (.tuple #[.agg #[.int .u64 (gO bl (k + 1) : Nat), .int .u64 (gS bl (k + 1) : Nat), .bool (gU bl (k + 1)), .int .i64 (gW bl (k + 1)), .int .u64 (gN bl (k + 1) : Nat)], .bool true]) ∧ w.grownBy w' none := hA
        have hB' : ∀ (w : World) (la : Option Addr) (c : Nat) (h : BlksAt w la bl), Calls Try.prog 18 #[.slice la bl.length c, .int .u64 (g (k + 1) : Nat)] w fun e w' => e = .returned (.tuple #[.agg #[.int .u64 (gO bl k : Nat), .int .u64 (gS bl k : Nat), .bool (gU bl k), .int .i64 (gW bl k), .int .u64 (gN bl k : Nat)], .bool true]) ∧ w.grownBy w' none := hB
        clear hA hB
        obtain ⟨b, off, rfl, hb, hcs⟩ := (hat3.later hg).cells (by omega)
        obtain ⟨c0, c1, c2, c3, c4⟩ := hcs k (by omega)
        have hcell : ∀ {wq : World}, wr.grownBy wq none → wq.cell? ⟨b, off + k * 5, none⟩ = some (.int .u64 (gO bl k : Nat)) ∧ wq.cell? ⟨b, off + k * 5 + 1, none⟩ = some (.int .u64 (gS bl k : Nat)) ∧ wq.cell? ⟨b, off + k * 5 + 2, none⟩ = some (.bool (gU bl k)) ∧ wq.cell? ⟨b, off + k * 5 + 3, none⟩ = some (.int .i64 (gW bl k)) ∧ wq.cell? ⟨b, off + k * 5 + 4, none⟩ = some (.int .u64 (gN bl k : Nat)) := fun {wq} hq => by
          have q1 := hq.block b hb (by simp)
          have K1 : ∀ {i v}, wr.cell? ⟨b, i, none⟩ = some v → wq.cell? ⟨b, i, none⟩ = some v := fun {i v} hv => (World.cell?_of_block (w := wr) (a := ⟨b, i, none⟩) q1).trans hv
          exact ⟨K1 c0, K1 c1, K1 c2, K1 c3, K1 c4⟩
        rw [ho1] at hA'
        rw [ho] at hB' c0
        simp only [ho] at hcell
        obtain ⟨Y0, eY0⟩ : ∃ x, gO bl (k + 1) = x := ⟨_, rfl⟩
        obtain ⟨Y1, eY1⟩ : ∃ x, gS bl (k + 1) = x := ⟨_, rfl⟩
        obtain ⟨Y2, eY2⟩ : ∃ x, gU bl (k + 1) = x := ⟨_, rfl⟩
        obtain ⟨Y3, eY3⟩ : ∃ x, gW bl (k + 1) = x := ⟨_, rfl⟩
        obtain ⟨Y4, eY4⟩ : ∃ x, gN bl (k + 1) = x := ⟨_, rfl⟩
        obtain ⟨P0, eP0⟩ : ∃ x, gO bl k = x := ⟨_, rfl⟩
        obtain ⟨P1, eP1⟩ : ∃ x, gS bl k = x := ⟨_, rfl⟩
        obtain ⟨P2, eP2⟩ : ∃ x, gU bl k = x := ⟨_, rfl⟩
        obtain ⟨P3, eP3⟩ : ∃ x, gW bl k = x := ⟨_, rfl⟩
        obtain ⟨P4, eP4⟩ : ∃ x, gN bl k = x := ⟨_, rfl⟩
        rw [eY1, eY2, eY3, eY4] at hA'
        rw [eP1] at hs c1
        rw [eP2] at c2
        rw [eP3] at c3
        rw [eP4] at c4
        rw [eP1, eP2, eP3, eP4] at hB'
        simp only [eP1, eP2, eP3, eP4] at hcell
        obtain ⟨x, ex⟩ : ∃ x, g k = x := ⟨_, rfl⟩
        obtain ⟨y, ey⟩ : ∃ y, g (k + 1) = y := ⟨_, rfl⟩
        rw [ex] at hA' hB' hs c0
        simp only [ex] at hcell
        rw [ey] at hA' hB' hs hl1
        rw [hrow.len] at hA' hB'
        have e1 : IntKind.u64.wrap ((x : Int) + (P1 : Int)) = (y : Nat) := by rw [IntKind.wrap_u64]; omega
        have e2 : ((y : Int) != (y : Int)) = false := by simp
        have e3 : IntKind.i64.wrap ((k : Int) + 1) = ((k : Int) + 1) := by rw [IntKind.wrap_i64]; omega
        have e4 : decide (((k : Int) + 1) < (N0 : Int)) = true := decide_eq_true (by omega)
        have HA := Lib.hid (hat3.later hg)
        have HC := Lib.hid (fun (wq : World) (hq : wr.grownBy wq none) => hcell hq)
        clear hcell hcs ho ho1 hrow eP0 eP1 eP2 eP3 eP4 eY0 eY1 eY2 eY3 eY4 ex ey hs hl1 hlen hat3 hbl
        go_wp2_with (go_at_call 20; ((with_reducible refine (hA' _ _ _ HA.out).mono ?_); rintro e w4 ⟨rfl, hg4⟩; have ha4 := World.grownBy_alloc w4 (.cells #[.int .u64 (y : Nat), .int .u64 (Y1 : Nat), .bool Y2, .int .i64 Y3, .int .u64 (Y4 : Nat)] 42) none; have G4 := grown_trans hg4 ha4; clear c0 c1 c2 c3 c4; obtain ⟨c0, c1, c2, c3, c4⟩ := HC.out _ G4; obtain ⟨y0, y1, y2, y3, y4⟩ := five_cells (five_first (grown_refl (w4.alloc (.cells #[.int .u64 (y : Nat), .int .u64 (Y1 : Nat), .bool Y2, .int .i64 Y3, .int .u64 (Y4 : Nat)] 42)) none))))
        go_quiet (fail)
        obtain ⟨w5, hw5⟩ : ∃ w5, w5 = (w4.alloc (.cells #[.int .u64 (y : Nat), .int .u64 (Y1 : Nat), .bool Y2, .int .i64 Y3, .int .u64 (Y4 : Nat)] 42)).drewN nq := ⟨_, rfl⟩
        have hq5 : (w4.alloc (.cells #[.int .u64 (y : Nat), .int .u64 (Y1 : Nat), .bool Y2, .int .i64 Y3, .int .u64 (Y4 : Nat)] 42)).grownBy w5 none := by rw [hw5]; exact grown_drewN _ _
        rw [← hw5]
        clear hw5 y0 y1 y2 y3 y4
        have G5 := grown_trans G4 hq5
        obtain ⟨y0, y1, y2, y3, y4⟩ := five_cells (five_first hq5)
        go_wp2_with (go_at_call 18; ((with_reducible refine (hB' _ _ _ (HA.out.later G5)).mono ?_); rintro e w6 ⟨rfl, hg6⟩; have ha6 := World.grownBy_alloc w6 (.cells #[.int .u64 (x : Nat), .int .u64 (P1 : Nat), .bool P2, .int .i64 P3, .int .u64 (P4 : Nat)] 42) none; have G6 := grown_trans G5 (grown_trans hg6 ha6); clear c0 c1 c2 c3 c4; obtain ⟨c0, c1, c2, c3, c4⟩ := HC.out _ G6; obtain ⟨z0, z1, z2, z3, z4⟩ := five_cells (five_first (grown_refl (w6.alloc (.cells #[.int .u64 (x : Nat), .int .u64 (P1 : Nat), .bool P2, .int .i64 P3, .int .u64 (P4 : Nat)] 42)) none))))
        go_quiet (fail)
        have hend2 := grown_trans hg (grown_trans G6 (grown_drewN _ nq))
        go_wp2
        go_roundw
        case rel => exact ⟨k + 1, by omega, by go_num, hend2⟩
        case measure => simp [intOf]; omega
      · have hB := fun (w : World) (la : Option Addr) (c : Nat) (h : BlksAt w la bl) => before_any (c := c) h hlen 0
        rw [hrow.after h1, if_neg hk1] at hA
        have hA' : ∀ (w : World) (la : Option Addr) (c : Nat) (h : BlksAt w la bl), Calls Try.prog 20 #[.slice la bl.length c, .int .u64 (g k : Nat)] w fun e w' => e = .returned (.tuple #[.agg #[.int .u64 0, .int .u64 0, .bool false, .int .i64 0, .int .u64 0], .bool false]) ∧ w.grownBy w' none := hA
        obtain ⟨r, er⟩ : ∃ r, besB (pO 0) bl (-1) = r := ⟨_, rfl⟩
        obtain ⟨s, es⟩ : ∃ s, (besN (pO 0) bl (-1)).isSome = s := ⟨_, rfl⟩
        rw [er, es] at hB
        have hB' : ∀ (w : World) (la : Option Addr) (c : Nat) (h : BlksAt w la bl), Calls Try.prog 18 #[.slice la bl.length c, .int .u64 0] w fun e w' => e = .returned (.tuple #[.agg #[.int .u64 (r.off : Nat), .int .u64 (r.s : Nat), .bool r.u, .int .i64 r.o, .int .u64 (r.n : Nat)], .bool s]) ∧ w.grownBy w' none := hB
        clear hA hB er es
        obtain ⟨b, off, rfl, hb, hcs⟩ := (hat3.later hg).cells (by omega)
        obtain ⟨c0, _, _, _, _⟩ := hcs k (by omega)
        rw [ho] at c0
        have hcell : ∀ {wq : World}, wr.grownBy wq none → wq.cell? ⟨b, off + k * 5, none⟩ = some (.int .u64 (g k : Nat)) := fun {wq} hq => (World.cell?_of_block (w := wr) (a := ⟨b, off + k * 5, none⟩) (hq.block b hb (by simp))).trans c0
        obtain ⟨x, ex⟩ : ∃ x, g k = x := ⟨_, rfl⟩
        rw [ex] at hA' c0
        rw [hrow.len] at hA' hB'
        have e3 : IntKind.i64.wrap ((k : Int) + 1) = ((k : Int) + 1) := by rw [IntKind.wrap_i64]; omega
        have e4 : decide (((k : Int) + 1) < (N0 : Int)) = false := decide_eq_false (by omega)
        have HA := Lib.hid (hat3.later hg)
        clear hcell hcs ho hrow ex hs hl1 hlen hat3 hbl
        go_wp2_with (go_at_call 20; ((with_reducible refine (hA' _ _ _ HA.out).mono ?_); rintro e w4 ⟨rfl, hg4⟩; have ha4 := World.grownBy_alloc w4 (.cells #[.int .u64 0, .int .u64 0, .bool false, .int .i64 0, .int .u64 0] 42) none; have G4 := grown_trans hg4 ha4))
        go_quiet (fail)
        obtain ⟨w5, hw5⟩ : ∃ w5, w5 = (w4.alloc (.cells #[.int .u64 0, .int .u64 0, .bool false, .int .i64 0, .int .u64 0] 42)).drewN nq := ⟨_, rfl⟩
        have hq5 : (w4.alloc (.cells #[.int .u64 0, .int .u64 0, .bool false, .int .i64 0, .int .u64 0] 42)).grownBy w5 none := by rw [hw5]; exact grown_drewN _ _
        rw [← hw5]
        clear hw5
        have G5 := grown_trans G4 hq5
        obtain ⟨y0, y1, y2, y3, y4⟩ := five_cells (five_first hq5)
        go_wp2_with (go_at_call 18; ((with_reducible refine (hB' _ _ _ (HA.out.later G5)).mono ?_); rintro e w6 ⟨rfl, hg6⟩; have ha6 := World.grownBy_alloc w6 (.cells #[.int .u64 (r.off : Nat), .int .u64 (r.s : Nat), .bool r.u, .int .i64 r.o, .int .u64 (r.n : Nat)] 42) none; have G6 := grown_trans G5 (grown_trans hg6 ha6)))
        go_quiet (fail)
        have hend2 := grown_trans hg (grown_trans G6 (grown_drewN _ nq))
        go_wp2
        go_roundw
        case rel => exact ⟨k + 1, by omega, by go_num, hend2⟩
        case measure => simp [intOf]; omega
    · obtain rfl : k = N0 := by omega
      clear hat3
      go_wp2
      go_ret
      exact ⟨ret_bool' (by first | (simp; done) | (simp; omega)), grown_trans hend hg⟩
theorem walk {la : Option Addr} {n c : Nat} {A B C : Nat → Nat} (hc : n ≤ c) (hn : n ≤ maxLen) {w : World} (hp : PiecesAt w la n A B C) :
    Calls Try.prog 8 #[.slice la n c] w fun e w' => e = .returned (.bool true) ∧ Below w.heap.size w w' :=
  (core hc hn hp).mono fun e w' ⟨h1, h2⟩ => ⟨h1, grown_below h2⟩

theorem laidOut : laidOutB Try.prog = true := by kernel_rfl
/-! ### The row's step: the guide's frame -/
theorem own : ownKnob Try.prog.godebug = none := by kernel_rfl
set_option maxRecDepth 100000 in
theorem lifted (os : Os) (started : os.Started) (H : Type) (enc : TypeId × Value → H) :
    ReturnsInHanded {} Try.checked os 8 .any (Rows.physTurnSpec.pre6 enc Try.prog Try.f8 Rows.physTurnRow.domain false) (Rows.physTurnSpec.post enc Try.prog Try.f8 false true false false) := by
  refine returnsInHanded_of_change (C := Try.checked) own started (by kernel_rfl) Try.func8
    (ChangeSpec.witness6 (enc := enc) (C := Try.checked) false ⟨#[], #[.slice none 0 0], []⟩ 8 (by kernel_rfl) (by kernel_rfl) (by kernel_rfl) (by kernel_rfl)) ?_
  intro W base args ds gs before hval0 hW hcnd _
  have hval : ∀ (j : Nat) t v, Try.f8.params[j]? = some t → args[j]? = some v → Value.okWide Try.prog W .any base t v := hval0
  have hW' := hW
  obtain ⟨p, q, hA0, hV, rfl, hfz, hnd⟩ := hW
  have hA : DataW.TrodAll enc Try.prog W 0 (fun _ => true) true Try.f8.params.toList args.toList ds p := hA0
  rw [Try.params8] at hA hval
  obtain ⟨v0, vs0, d0, ds0, p0, q0, hargs, rfl, rfl, h0, r0⟩ := trodAll_cons hA
  obtain ⟨rfl, rfl, rfl⟩ := trodAll_nil r0
  obtain rfl : args = #[v0] := by cases args; simp_all
  obtain ⟨rfl, rfl⟩ := trodVars_none hV
  have lt0 : ∀ x ∈ p0, x.block < W.heap.size := by obtain ⟨m, hm⟩ := h0; exact DataW.trod_lt m _ _ _ hm
  obtain ⟨la0, n0, c0, A0, B0, C0, rfl, hc0, hn0, hp0⟩ := open_pieces (hval 0 22 v0 rfl rfl) h0
  clear hA0 hval0
  refine (walk hc0 hn0 hp0).mono fun e W' ⟨he, bel⟩ => ?_
  subst he
  exact ⟨_, rfl, _, _, _, [], _, [], hW', trodAll_mk1 (shut_bool Try.underlying4 _), (trodAll_cons_mk (Below.trod laidOut (by kernel_rfl) (of_decide_eq_true (by kernel_rfl)) h0 bel lt0) trodAll_mk0), rfl, bel.frame _, fun h => by cases h⟩

theorem over : Rows.physTurnRow.holds Try.pinned (OpenSpec.ofChange Rows.physTurnSpec) :=
  OpenClaim.holds_of_wide 8 Try.f8 rfl rfl rfl rfl rfl rfl rfl ⟨rfl, rfl, rfl, rfl, rfl⟩ rfl rfl rfl rfl rfl (by kernel_rfl) Try.func8 (by kernel_rfl)
    (of_decide_eq_true (by kernel_rfl)) (by unfold Func.isWrapper; first | (rw [if_pos (by decide +kernel)]; kernel_rfl) | (rw [if_neg (by decide +kernel)]; exact ⟨rfl, rfl⟩))
    (fun os started H enc _ => lifted os started H enc)

theorem proved : Rows.PhysTurnSaid :=
  over
#print axioms proved


end Go.Proofs.Ytmhkibdbamhdoaa.physTurn
