/-
  Whatever comes and goes, in whatever turn: all lists are the document's, and are told. The statement LedgerPlays, for all lists of pieces, and all steps; no condition.
-/
import Derived.Test.YtkpopaadkfgjaaaLedW
namespace Go.Proofs.Ytkpopaadkfgjaaa.ledgerPlays
open Go.ChangeShapes Go.WideShapes Go.ChangeAt Go.RowKit
set_option linter.unusedVariables false
set_option linter.unusedSimpArgs false
set_option maxRecDepth 100000

/-- what played tells, as the walk has it -/
structure Pl9 (w1 w2 w' : World) (T : Nat) (R : Option Nat) (U : List Nat) (tg X Y : Nat → Nat) (m : Nat) (L : Nat → List Nat) (va : Nat → Option Addr) (vc : Nat → Nat) : Prop where
  is : ∃ R', LW w1 w' T R' U tg L ∧ (∀ c, c < 8 → KW w' R' w2.heap.size (.slice (va c) (L c).length (vc c)) (L c)) ∧ Keep w2 R w' R'
  few : ∀ c, (L c).length ≤ 40
  says : playL U X Y (min m 40) = L
theorem plays_from {w1 w2 : World} {T : Nat} {R : Option Nat} {U : List Nat} {tg : Nat → Nat} {fa lb : Option Addr} {fc m cm : Nat} {X Y : Nat → Nat} (G : Laid9G w1 w2 T R U tg (.slice fa U.length fc)) (hs : StepsAt w1 lb m X Y) (hm : m ≤ maxLen) :
    Calls Try.prog 13 #[.pointer (some ⟨T, 0, none⟩), .slice fa U.length fc, .slice lb m cm] w2 fun e w' => ∃ L va vc, e = .returned (.tuple #[.agg #[.slice (va 0) (L 0).length (vc 0), .slice (va 1) (L 1).length (vc 1), .slice (va 2) (L 2).length (vc 2), .slice (va 3) (L 3).length (vc 3), .slice (va 4) (L 4).length (vc 4), .slice (va 5) (L 5).length (vc 5), .slice (va 6) (L 6).length (vc 6), .slice (va 7) (L 7).length (vc 7)], .bool true]) ∧ Pl9 w1 w2 w' T R U tg X Y m L va vc := by
  refine (played9_any G.lists G.grid rfl G.pos (Nat.le_trans G.few (by decide)) G.row hs hm).mono ?_
  rintro e w' ⟨R', vs, h1, h2, h3, h4⟩
  have key : ∀ c, c < 8 → ∃ q : Option Addr × Nat, vs c = .slice q.1 (playL U X Y (min m 40) c).length q.2 := fun c hc => by
    obtain ⟨a, cp, e, _⟩ := (h3 c hc).1.lie
    exact ⟨(a, cp), e⟩
  obtain ⟨q, hq⟩ := Deep.choose_lt (α := Option Addr × Nat) (p := fun c q => vs c = .slice q.1 (playL U X Y (min m 40) c).length q.2) key
  refine ⟨playL U X Y (min m 40), fun c => (q c).1, fun c => (q c).2, ?_, ⟨R', h2, fun c hc => by rw [← hq c hc]; exact h3 c hc, h4⟩, fun c => Nat.le_trans (playL_len _ c) (Nat.min_le_right _ _), rfl⟩
  rw [h1]
  show Ending.returned (.tuple #[.agg #[vs 0, vs 1, vs 2, vs 3, vs 4, vs 5, vs 6, vs 7], .bool true]) = _
  rw [hq 0 (by decide), hq 1 (by decide), hq 2 (by decide), hq 3 (by decide), hq 4 (by decide), hq 5 (by decide), hq 6 (by decide), hq 7 (by decide)]
/-- what every round leaves as it is -/
structure Rd (w0 : World) (T : Nat) (U : List Nat) (tg : Nat → Nat) (ob base : Nat) (L : Nat → List Nat) (va : Nat → Option Addr) (vc : Nat → Nat) (wr : World) : Prop where
  is : ∃ R, LW w0 wr T R U tg L ∧ (∀ c, c < 8 → KW wr R base (.slice (va c) (L c).length (vc c)) (L c)) ∧ wr.heap[ob]? = some (.cells (box8 fun c => .slice (va c) (L c).length (vc c)) 38 (0, 0))
section
variable {w0 w1 w2 w' wr : World} {T ob base c n m k : Nat} {a : Option Addr} {U : List Nat} {tg X Y : Nat → Nat} {L : Nat → List Nat} {va : Nat → Option Addr} {vc : Nat → Nat}
theorem Rd.later (h : Rd w0 T U tg ob base L va vc wr) (hg : wr.grownBy w' none) : Rd w0 T U tg ob base L va vc w' := by
  obtain ⟨R, h1, h2, h3⟩ := h.is
  exact ⟨R, h1.later hg, fun c hc => (h2 c hc).later hg, (hg.block _ (lt_of_block h3) (by simp)).trans h3⟩
theorem Rd.since (h : Rd w0 T U tg ob base L va vc wr) : w0.grownBy wr none := by
  obtain ⟨R, h1, h2, h3⟩ := h.is
  exact h1.since
theorem Rd.cell (h : Rd w0 T U tg ob base L va vc wr) (hc : c < 8) : wr.cell? ⟨ob, c, none⟩ = some (.slice (va c) (L c).length (vc c)) ∧ WordsAt wr (va c) (L c) ∧ OwnW wr base (.slice (va c) (L c).length (vc c)) (L c) := by
  obtain ⟨R, h1, h2, h4⟩ := h.is
  obtain ⟨a, cp, e, hw⟩ := (h2 c hc).1.lie
  injection e with e _ _
  subst e
  refine ⟨?_, hw, (h2 c hc).1⟩
  unfold World.cell?
  simp only [h4]
  exact box8_get (fun c => .slice (va c) (L c).length (vc c)) hc
theorem Rd.check (h : Rd w0 T U tg ob base L va vc wr) (hU : Grid U) (hc : c < 8) (hw : WordsAt wr a (L c)) (hn : (L c).length = n) :
    Calls Try.prog 10 #[.pointer (some ⟨T, 0, none⟩), .int .i64 c, .slice a n k] wr fun e w' => e = .returned (.bool true) ∧ wr.grownBy w' none := by
  obtain ⟨R, h1, h2, h4⟩ := h.is
  exact lw_check h1 hU hc hw hn
theorem Rd.list (h : Rd w0 T U tg ob base L va vc wr) (hU : Grid U) (hc : c < 8) :
    Calls Try.prog 15 #[.pointer (some ⟨T, 0, none⟩), .int .i64 c] wr fun e w' => ∃ v, e = .returned v ∧ OwnW w' wr.heap.size v (L c) ∧ wr.grownBy w' none := by
  obtain ⟨R, h1, h2, h4⟩ := h.is
  exact lw_list h1 hU hc
theorem Pl9.box {R : Option Nat} (h : Pl9 w1 w2 w' T R U tg X Y m L va vc) : Rd w1 T U tg w'.heap.size w2.heap.size L va vc (w'.alloc (.cells #[.slice (va 0) (L 0).length (vc 0), .slice (va 1) (L 1).length (vc 1), .slice (va 2) (L 2).length (vc 2), .slice (va 3) (L 3).length (vc 3), .slice (va 4) (L 4).length (vc 4), .slice (va 5) (L 5).length (vc 5), .slice (va 6) (L 6).length (vc 6), .slice (va 7) (L 7).length (vc 7)] 38)) := by
  obtain ⟨R', h1, h2, h3⟩ := h.is
  exact ⟨R', h1.later (World.grownBy_alloc _ _ _), fun c hc => (h2 c hc).later (World.grownBy_alloc _ _ _), heap_alloc_new' w' _⟩
end
set_option maxHeartbeats 8000000 in
theorem core {w : World} {la lb : Option Addr} {n c m cm : Nat} {A B C X Y : Nat → Nat} (hp : PiecesAt w la n A B C) (hc : n ≤ c) (hn : n ≤ maxLen) (hs : StepsAt w lb m X Y) (hm : m ≤ maxLen) :
    Calls Try.prog 4 #[.slice la n c, .slice lb m cm] w fun e w' => e = .returned (.bool true) ∧ w.grownBy w' none := by
  have hla := fun (w1 : World) (hg : w.grownBy w1 none) => laid9_from (w := w1) (hp.later hg) hc hn (grown_refl w1 none)
  have hst := fun (w1 : World) (hg : w.grownBy w1 none) => hs.later hg
  clear hp hs
  go_enter Try.func4, Try.ntmps4
  go_wp2_with (first | (go_at_call 8; ((with_reducible refine (awake9 _).mono ?_); rintro e w1 ⟨rfl, hg1⟩)) | (go_at_call 12; go_must ((with_reducible refine (hla _ hg1).mono ?_); rintro e w2 ⟨T, R, U, tg, fa, fc, rfl, G, _, hg2⟩; have hpl := plays_from (cm := cm) G (hst _ hg1) hm; have hup := G.pos; have hU := G.grid)) | (go_at_call 13; ((with_reducible refine hpl.mono ?_); rintro e w3 ⟨L, va, vc, rfl, P3⟩)))
  obtain ⟨W4, hW4⟩ : ∃ W4, w3.alloc (.cells #[.slice (va 0) (L 0).length (vc 0), .slice (va 1) (L 1).length (vc 1), .slice (va 2) (L 2).length (vc 2), .slice (va 3) (L 3).length (vc 3), .slice (va 4) (L 4).length (vc 4), .slice (va 5) (L 5).length (vc 5), .slice (va 6) (L 6).length (vc 6), .slice (va 7) (L 7).length (vc 7)] 38) = W4 := ⟨_, rfl⟩
  have R0 := P3.box
  have hfew := P3.few
  rw [hW4] at R0 ⊢
  obtain ⟨ob, hob⟩ : ∃ ob, w3.heap.size = ob := ⟨_, rfl⟩
  rw [hob] at R0 ⊢
  have hsn := grown_trans hg1 R0.since
  clear hla hst hpl P3 G hg2 hob hW4
  have HF := Lib.hid hfew
  have HS := Lib.hid hsn
  have HU := Lib.hid hU
  clear hfew hsn hU
  go_loopw [10] (fun i wr => ∃ k : Nat, k ≤ 8 ∧ i = .int .i64 k ∧ W4.grownBy wr none) (fun i _ => 8 - (intOf i).toNat)
  case atStart => exact ⟨0, Nat.zero_le _, rfl, grown_refl _ _⟩
  case round =>
    obtain ⟨k, hk, rfl, hgk⟩ := hrel
    have RR := R0.later hgk
    by_cases hk8 : k < 8
    · have hk8' : (k : Int) < 8 := by omega
      obtain ⟨x0, x1, x2⟩ := RR.cell hk8
      have hlk := HF.out k
      obtain ⟨l, hl⟩ : ∃ l, L k = l := ⟨_, rfl⟩
      have hck := fun (w' : World) (hg : wr.grownBy w' none) => (RR.later hg).check (k := vc k) HU.out hk8 (x1.later hg) rfl
      have hls := fun (w' : World) (hg : wr.grownBy w' none) => (RR.later hg).list HU.out hk8
      have hcl := fun (w' : World) (hg : wr.grownBy w' none) => ((RR.later hg).cell hk8).1
      have hnu := fun (w' : World) (hg : wr.grownBy w' none) => x2.later hg
      rw [hl] at x0 hck hls hnu hcl hlk
      obtain ⟨n5, hn5⟩ : ∃ n5, l.length = n5 := ⟨_, rfl⟩
      obtain ⟨a5, ha5⟩ : ∃ a5, va k = a5 := ⟨_, rfl⟩
      obtain ⟨c5, hc5⟩ : ∃ c5, vc k = c5 := ⟨_, rfl⟩
      rw [hn5, ha5, hc5] at x0 hck hnu hcl
      clear x1 x2 RR hl hn5 ha5 hc5
      go_wp2
      go_region_held3 (fun w' => w'.cell? ⟨ob, k, none⟩ = some (.slice a5 n5 c5)) (go_keep)
        (first | (go_at_call 10; ((with_reducible refine (hck _ (grown_drew (grown_refl _ none))).mono ?_); rintro e w5 ⟨rfl, hg5⟩; have HG := grown_trans (grown_drew (grown_refl wr none)) hg5; have p0 := hcl _ HG)) | (go_at_call 15; ((with_reducible refine (hls _ HG).mono ?_); rintro e w6 ⟨v6, rfl, ho6, hg6⟩; replace HG := grown_trans HG hg6; have p0 := hcl _ HG; have hsm := nums_same ho6 (hnu _ HG) (by omega))) | (go_at_call 14; ((with_reducible refine hsm.mono ?_); rintro e w7 ⟨rfl, hg7⟩; replace HG := grown_trans HG hg7; have p0 := hcl _ HG)))
      go_wp2
      go_roundw
      case rel => exact ⟨k + 1, by omega, by go_num, grown_trans hgk HG⟩
      case measure => simp [intOf]; omega
    · obtain rfl : k = 8 := by omega
      have hup' : (0 : Int) < (U.length : Int) := by omega
      go_wp2
      go_ret
      exact ⟨by simp, grown_trans HS.out hgk⟩
theorem walk {la lb : Option Addr} {n c m cm : Nat} {A B C X Y : Nat → Nat} {w : World} (hc : n ≤ c) (hn : n ≤ maxLen) (hp : PiecesAt w la n A B C) (_ : m ≤ cm) (hm : m ≤ maxLen) (hs : StepsAt w lb m X Y) :
    Calls Try.prog 4 #[.slice la n c, .slice lb m cm] w fun e w' => e = .returned (.bool true) ∧ Below w.heap.size w w' :=
  (core hp hc hn hs hm).mono fun e w' ⟨h1, h2⟩ => ⟨h1, grown_below h2⟩

theorem laidOut : laidOutB Try.prog = true := by kernel_rfl
/-! ### The row's step: the guide's frame -/
theorem own : ownKnob Try.prog.godebug = none := by kernel_rfl
set_option maxRecDepth 100000 in
theorem lifted (os : Os) (started : os.Started) (H : Type) (enc : TypeId × Value → H) :
    ReturnsInHanded {} Try.checked os 4 .any (Rows.ledgerPlaysSpec.pre6 enc Try.prog Try.f4 Rows.ledgerPlaysRow.domain false) (Rows.ledgerPlaysSpec.post enc Try.prog Try.f4 false true false false) := by
  refine returnsInHanded_of_change (C := Try.checked) own started (by kernel_rfl) Try.func4
    (ChangeSpec.witness6 (enc := enc) (C := Try.checked) false ⟨#[], #[.slice none 0 0, .slice none 0 0], []⟩ 8 (by kernel_rfl) (by kernel_rfl) (by kernel_rfl) (by kernel_rfl)) ?_
  intro W base args ds gs before hval0 hW hcnd _
  have hval : ∀ (j : Nat) t v, Try.f4.params[j]? = some t → args[j]? = some v → Value.okWide Try.prog W .any base t v := hval0
  have hW' := hW
  obtain ⟨p, q, hA0, hV, rfl, hfz, hnd⟩ := hW
  have hA : DataW.TrodAll enc Try.prog W 0 (fun _ => true) true Try.f4.params.toList args.toList ds p := hA0
  rw [Try.params4] at hA hval
  obtain ⟨v0, vs0, d0, ds0, p0, q0, hargs, rfl, rfl, h0, r0⟩ := trodAll_cons hA
  obtain ⟨v1, vs1, d1, ds1, p1, q1, rfl, rfl, rfl, h1, r1⟩ := trodAll_cons r0
  obtain ⟨rfl, rfl, rfl⟩ := trodAll_nil r1
  obtain rfl : args = #[v0, v1] := by cases args; simp_all
  obtain ⟨rfl, rfl⟩ := trodVars_none hV
  have lt0 : ∀ x ∈ p0, x.block < W.heap.size := by obtain ⟨m, hm⟩ := h0; exact DataW.trod_lt m _ _ _ hm
  obtain ⟨la0, n0, c0, A0, B0, C0, rfl, hc0, hn0, hp0⟩ := open_pieces (hval 0 34 v0 rfl rfl) h0
  have lt1 : ∀ x ∈ p1, x.block < W.heap.size := by obtain ⟨m, hm⟩ := h1; exact DataW.trod_lt m _ _ _ hm
  obtain ⟨la1, n1, c1, A1, B1, rfl, hc1, hn1, hp1⟩ := open_steps (hval 1 35 v1 rfl rfl) h1
  clear hA0 hval0
  refine (walk hc0 hn0 hp0 hc1 hn1 hp1).mono fun e W' ⟨he, bel⟩ => ?_
  subst he
  exact ⟨_, rfl, _, _, _, [], _, [], hW', trodAll_mk1 (shut_bool Try.underlying4 _), (trodAll_cons_mk (Below.trod laidOut (by kernel_rfl) (of_decide_eq_true (by kernel_rfl)) h0 bel lt0) (trodAll_cons_mk (Below.trod laidOut (by kernel_rfl) (of_decide_eq_true (by kernel_rfl)) h1 bel lt1) trodAll_mk0)), rfl, bel.frame _, fun h => by cases h⟩

theorem over : Rows.ledgerPlaysRow.holds Try.pinned (OpenSpec.ofChange Rows.ledgerPlaysSpec) :=
  OpenClaim.holds_of_wide 4 Try.f4 rfl rfl rfl rfl rfl rfl rfl ⟨rfl, rfl, rfl, rfl, rfl⟩ rfl rfl rfl rfl rfl (by kernel_rfl) Try.func4 (by kernel_rfl)
    (of_decide_eq_true (by kernel_rfl)) (by unfold Func.isWrapper; first | (rw [if_pos (by decide +kernel)]; kernel_rfl) | (rw [if_neg (by decide +kernel)]; exact ⟨rfl, rfl⟩))
    (fun os started H enc _ => lifted os started H enc)

theorem proved : Rows.LedgerPlaysSaid :=
  over
#print axioms proved


end Go.Proofs.Ytkpopaadkfgjaaa.ledgerPlays
