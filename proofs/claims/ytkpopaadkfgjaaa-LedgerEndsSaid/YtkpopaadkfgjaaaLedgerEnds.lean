/-
  All blocks of a list go, in any turn: from its begin, or from its end. The statement LedgerEnds, for all lists of pieces, all steps, and all bools; no condition.
-/
import Derived.Test.YtkpopaadkfgjaaaLedR
import Derived.Test.YtkpopaadkfgjaaaBoolO
namespace Go.Proofs.Ytkpopaadkfgjaaa.ledgerEnds
open Go.ChangeShapes Go.WideShapes Go.ChangeAt Go.RowKit
set_option linter.unusedVariables false
set_option linter.unusedSimpArgs false
set_option maxRecDepth 100000

/-- the lists of the first ones are empty -/
def gone (L : Nat → List Nat) (c : Nat) : Nat → List Nat := fun d => if d < c then [] else L d
theorem gone_zero (L : Nat → List Nat) : gone L 0 = L := by
  funext d
  exact if_neg (by omega)
theorem gone_self (L : Nat → List Nat) (c : Nat) : setL (gone L c) c (L c) = gone L c := by
  funext d
  by_cases e : d = c
  · subst e
    rw [setL_same]
    exact (if_neg (by omega)).symm
  · rw [setL_other _ e]
theorem gone_next (L : Nat → List Nat) (c : Nat) : setL (gone L c) c [] = gone L (c + 1) := by
  funext d
  by_cases e : d = c
  · subst e
    rw [setL_same]
    exact (if_pos (by omega)).symm
  · rw [setL_other _ e]
    unfold gone
    by_cases h : d < c
    · rw [if_pos h, if_pos (by omega)]
    · rw [if_neg h, if_neg (by omega)]
theorem setL_setL (L : Nat → List Nat) (c : Nat) (xs ys : List Nat) : setL (setL L c xs) c ys = setL L c ys := by
  funext d
  by_cases e : d = c
  · subst e
    rw [setL_same, setL_same]
  · rw [setL_other _ e, setL_other _ e, setL_other _ e]
/-- .. and there is a row xs, which is what the Tx's list c is. -/
structure RdV (w0 : World) (T : Nat) (U : List Nat) (tg : Nat → Nat) (ob base : Nat) (L : Nat → List Nat) (c : Nat) (xs ys : List Nat) (va : Nat → Option Addr) (vc : Nat → Nat) (a : Option Addr) (k : Nat) (wr : World) : Prop where
  is : ∃ R, LW w0 wr T R U tg (setL (gone L c) c ys) ∧ (∀ c, c < 8 → KW wr R base (.slice (va c) (L c).length (vc c)) (L c)) ∧ wr.heap[ob]? = some (.cells (box8 fun c => .slice (va c) (L c).length (vc c)) 38 (0, 0)) ∧ KW wr R base (.slice a xs.length k) xs
section
variable {w0 w' wr : World} {T ob base c n m k off : Nat} {a : Option Addr} {U xs ys : List Nat} {tg : Nat → Nat} {L : Nat → List Nat} {va : Nat → Option Addr} {vc : Nat → Nat}
theorem RdV.later (h : RdV w0 T U tg ob base L c xs ys va vc a k wr) (hg : wr.grownBy w' none) : RdV w0 T U tg ob base L c xs ys va vc a k w' := by
  obtain ⟨R, h1, h2, h4, h5⟩ := h.is
  exact ⟨R, h1.later hg, fun c hc => (h2 c hc).later hg, (hg.block _ (lt_of_block h4) (by simp)).trans h4, h5.later hg⟩
theorem RdV.since (h : RdV w0 T U tg ob base L c xs ys va vc a k wr) : w0.grownBy wr none := by
  obtain ⟨R, h1, _⟩ := h.is
  exact h1.since
theorem RdV.row (h : RdV w0 T U tg ob base L c xs ys va vc a k wr) : WordsAt wr a xs := by
  obtain ⟨R, _, _, _, h5⟩ := h.is
  obtain ⟨a, cp, e, hw⟩ := h5.1.lie
  injection e with e _ _
  subst e
  exact hw
theorem RdV.unlink (h : RdV w0 T U tg ob base L c xs xs va vc a k wr) (hU : Grid U) (hc : c < 8) (ho : off ∈ xs) :
    Calls Try.prog 19 #[.pointer (some ⟨T, 0, none⟩), .int .i64 c, .int .u64 off] wr fun e w' => e = .returned (.tuple #[]) ∧ RdV w0 T U tg ob base L c xs (xs.filter fun y => decide (y ≠ off)) va vc a k w' := by
  obtain ⟨R, h1, h2, h4, h5⟩ := h.is
  refine (lw_unlink h1 hU hc (by rw [setL_same]; exact ho)).mono ?_
  rintro e w' ⟨rfl, R', k1, k2⟩
  rw [setL_same, setL_setL] at k1
  exact ⟨rfl, ⟨R', k1, fun c hc => k2.row (h2 c hc), k2.far h4 (by decide) (by decide), k2.row h5⟩⟩
theorem RdV.without (h : RdV w0 T U tg ob base L c xs ys va vc a k wr) (hb : base ≤ wr.heap.size) (hl : xs.length = n) (hn : n ≤ 40) (x : Nat) :
    Calls Try.prog 20 #[.slice a n k, .int .u64 x] wr fun e w' => ∃ a' m k', e = .returned (.slice a' m k') ∧ (xs.filter fun y => decide (y ≠ x)).length = m ∧ RdV w0 T U tg ob base L c (xs.filter fun y => decide (y ≠ x)) ys va vc a' k' w' := by
  refine (rwithout_any (c := k) h.row hl (by omega) x).mono ?_
  rintro e w' ⟨v, rfl, ho, hg⟩
  obtain ⟨R, h1, h2, h4, h5⟩ := h.is
  have hk := h1.new ho (Nat.le_refl _)
  obtain ⟨a', k', rfl⟩ := ho.slice
  exact ⟨a', _, k', rfl, rfl, ⟨R, h1.later hg, fun c hc => (h2 c hc).later hg, (hg.block _ (lt_of_block h4) (by simp)).trans h4, hk.mono hb⟩⟩
theorem RdV.check (h : RdV w0 T U tg ob base L c xs xs va vc a k wr) (hU : Grid U) (hc : c < 8) (hn : xs.length = n) :
    Calls Try.prog 10 #[.pointer (some ⟨T, 0, none⟩), .int .i64 c, .slice a n k] wr fun e w' => e = .returned (.bool true) ∧ wr.grownBy w' none := by
  obtain ⟨R, h1, _⟩ := h.is
  exact lw_check h1 hU hc (by rw [setL_same]; exact h.row) (by rw [setL_same]; exact hn)
theorem RdV.head (h : RdV w0 T U tg ob base L c xs [] va vc a k wr) (hc : c < 8) :
    Calls Try.prog 18 #[.pointer (some ⟨T, 0, none⟩), .int .i64 c] wr fun e w' => e = .returned (.int .u64 0) ∧ wr.grownBy w' none := by
  obtain ⟨R, h1, _⟩ := h.is
  have := lw_head h1 hc
  rw [setL_same] at this
  exact this
theorem RdV.list (h : RdV w0 T U tg ob base L c xs [] va vc a k wr) (hU : Grid U) (hc : c < 8) :
    Calls Try.prog 15 #[.pointer (some ⟨T, 0, none⟩), .int .i64 c] wr fun e w' => ∃ a k, e = .returned (.slice a 0 k) ∧ wr.grownBy w' none := by
  obtain ⟨R, h1, _⟩ := h.is
  refine (lw_list h1 hU hc).mono ?_
  rintro e w' ⟨v, rfl, ho, hg⟩
  rw [setL_same] at ho
  obtain ⟨a, k, rfl⟩ := ho.slice
  exact ⟨a, k, rfl, hg⟩
variable {fa : Option Addr} {fc : Nat}
/-- behind played; and from one client to the next one -/
structure RdE (w0 : World) (T : Nat) (U : List Nat) (tg : Nat → Nat) (ob base : Nat) (L : Nat → List Nat) (c : Nat) (va : Nat → Option Addr) (vc : Nat → Nat) (wr : World) : Prop where
  is : ∃ R, LW w0 wr T R U tg (gone L c) ∧ (∀ c, c < 8 → KW wr R base (.slice (va c) (L c).length (vc c)) (L c)) ∧ wr.heap[ob]? = some (.cells (box8 fun c => .slice (va c) (L c).length (vc c)) 38 (0, 0))
theorem RdE.of (h : Rd w0 T U tg ob base L L va vc fa fc wr) : RdE w0 T U tg ob base L 0 va vc wr := by
  obtain ⟨R, h1, h2, h3, h4⟩ := h.is
  exact ⟨R, by rw [gone_zero]; exact h1, h2, h4⟩
theorem RdE.since (h : RdE w0 T U tg ob base L c va vc wr) : w0.grownBy wr none := by
  obtain ⟨R, h1, _⟩ := h.is
  exact h1.since
theorem RdE.cell (h : RdE w0 T U tg ob base L c va vc wr) (hc : c < 8) : wr.cell? ⟨ob, c, none⟩ = some (.slice (va c) (L c).length (vc c)) ∧ RdV w0 T U tg ob base L c (L c) (L c) va vc (va c) (vc c) wr := by
  obtain ⟨R, h1, h2, h4⟩ := h.is
  refine ⟨?_, R, by rw [gone_self]; exact h1, h2, h4, h2 c hc⟩
  unfold World.cell?
  simp only [h4]
  exact box8_get (fun c => .slice (va c) (L c).length (vc c)) hc
theorem RdV.next (h : RdV w0 T U tg ob base L c xs [] va vc a k wr) : RdE w0 T U tg ob base L (c + 1) va vc wr := by
  obtain ⟨R, h1, h2, h4, _⟩ := h.is
  exact ⟨R, by rw [← gone_next]; exact h1, h2, h4⟩
end
def lenV : Value → Nat
  | .slice _ n _ => n
  | _ => 0
theorem filter_less {xs : List Nat} {x : Nat} (h : x ∈ xs) : (xs.filter fun y => decide (y ≠ x)).length < xs.length := by
  have := List.length_filter_lt_length_iff_exists (p := fun y => decide (y ≠ x)) (l := xs)
  exact this.2 ⟨x, h, by simp⟩
set_option maxHeartbeats 8000000 in
theorem core {w : World} {la lb le : Option Addr} {n c m cm ne ce : Nat} {A B C X Y : Nat → Nat} {E : Nat → Bool} (hp : PiecesAt w la n A B C) (hc : n ≤ c) (hn : n ≤ maxLen) (hs : StepsAt w lb m X Y) (hm : m ≤ maxLen) (he : BoolsAt w le ne E) (hne : ne ≤ maxLen) :
    Calls Try.prog 6 #[.slice la n c, .slice lb m cm, .slice le ne ce] w fun e w' => e = .returned (.bool true) ∧ w.grownBy w' none := by
  have hla := fun (w1 : World) (hg : w.grownBy w1 none) => laid9_from (w := w1) (hp.later hg) hc hn (grown_refl w1 none)
  have hst := fun (w1 : World) (hg : w.grownBy w1 none) => hs.later hg
  clear hp hs
  go_enter Try.func6, Try.ntmps6
  go_wp2_with (first | (go_at_call 8; ((with_reducible refine (awake9 _).mono ?_); rintro e w1 ⟨rfl, hg1⟩)) | (go_at_call 12; ((with_reducible refine (hla _ hg1).mono ?_); rintro e w2 ⟨T, R, U, tg, fa, fc, rfl, G, _, hg2⟩; have hpl := plays_from (cm := cm) G (hst _ hg1) hm; have hU := G.grid)) | (go_at_call 13; ((with_reducible refine hpl.mono ?_); rintro e w3 ⟨L, va, vc, rfl, P3⟩)))
  obtain ⟨W4, hW4⟩ : ∃ W4, w3.alloc (.cells #[.slice (va 0) (L 0).length (vc 0), .slice (va 1) (L 1).length (vc 1), .slice (va 2) (L 2).length (vc 2), .slice (va 3) (L 3).length (vc 3), .slice (va 4) (L 4).length (vc 4), .slice (va 5) (L 5).length (vc 5), .slice (va 6) (L 6).length (vc 6), .slice (va 7) (L 7).length (vc 7)] 38) = W4 := ⟨_, rfl⟩
  have R0 := RdE.of (P3.box G hg2)
  have hfew := P3.few
  rw [hW4] at R0 ⊢
  obtain ⟨ob, hob⟩ : ∃ ob, w3.heap.size = ob := ⟨_, rfl⟩
  rw [hob] at R0 ⊢
  have HF := Lib.hid hfew
  have HS := Lib.hid hg1
  have HU := Lib.hid hU
  have HE := Lib.hid (he.later hg1)
  clear hla hst hpl P3 G hg2 hob hfew hU he hW4
  go_loopw [12] (fun i wr => ∃ q : Nat, q ≤ 8 ∧ i = .int .i64 q ∧ RdE w1 T U tg ob w1.heap.size L q va vc wr) (fun i _ => 8 - (intOf i).toNat)
  case atStart => exact ⟨0, Nat.zero_le _, rfl, R0⟩
  case round =>
    obtain ⟨q, hq, rfl, RE⟩ := hrel
    clear R0
    by_cases hq8 : q < 8
    · have hq8' : (q : Int) < 8 := by omega
      obtain ⟨cc, RV⟩ := RE.cell hq8
      have hfq := HF.out q
      obtain ⟨nq, hnq⟩ : ∃ nq, (L q).length = nq := ⟨_, rfl⟩
      obtain ⟨aq, haq⟩ : ∃ aq, va q = aq := ⟨_, rfl⟩
      obtain ⟨cq, hcq⟩ : ∃ cq, vc q = cq := ⟨_, rfl⟩
      rw [hnq, haq, hcq] at cc
      rw [haq, hcq] at RV
      rw [hnq] at hfq
      have HNQ := Lib.hid hnq
      have HQ := Lib.hid hq8
      clear RE haq hcq hnq
      go_wp2
      clear cc
      obtain ⟨wo, hwo⟩ : ∃ wo, wr = wo := ⟨_, rfl⟩
      rw [hwo] at RV ⊢
      clear hwo
      go_loopw [13, 14] (fun v i wr => ∃ (xs : List Nat) (n5 t : Nat) (a5 : Option Addr) (c5 : Nat), v = .slice a5 n5 c5 ∧ i = .int .i64 t ∧ xs.length = n5 ∧ t + n5 ≤ 40 ∧ RdV w1 T U tg ob w1.heap.size L q xs xs va vc a5 c5 wr) (fun v _ _ => lenV v)
      case atStart => exact ⟨L q, nq, 0, aq, cq, rfl, rfl, HNQ.out, by omega, RV⟩
      case round =>
        clear RV
        obtain ⟨xs, n5, t, a5, c5, rfl, rfl, hl, ht, RX⟩ := hrel
        have HL := Lib.hid hl
        clear hl
        by_cases h0 : n5 = 0
        · subst h0
          have hx0 : xs = [] := List.length_eq_zero_iff.1 HL.out
          rw [hx0] at RX
          have hhd := fun (w' : World) (hg : wr.grownBy w' none) => (RX.later hg).head HQ.out
          have hls := fun (w' : World) (hg : wr.grownBy w' none) => (RX.later hg).list HU.out HQ.out
          clear hx0
          go_wp2_with (first | (go_at_call 18; ((with_reducible refine (hhd _ (grown_refl _ none)).mono ?_); rintro e w7 ⟨rfl, HG⟩)) | (go_at_call 15; ((with_reducible refine (hls _ HG).mono ?_); rintro e w8 ⟨a8, c8, rfl, hg8⟩; replace HG := grown_trans HG hg8)))
          go_roundw
          case rel => exact ⟨q + 1, by omega, by go_num, (RX.later HG).next⟩
          case measure => simp [intOf]; omega
        · have h0' : (0 : Int) < (n5 : Int) := by omega
          obtain ⟨ba, oa, rfl, _, hca⟩ := RX.row.cells (by rw [HL.out]; omega)
          have u0 := hca 0 (by rw [HL.out]; omega)
          rw [Nat.add_zero] at u0
          have u9 := hca (n5 - 1) (by rw [HL.out]; omega)
          obtain ⟨l5, hl5⟩ : ∃ l5, n5 - 1 = l5 := ⟨_, rfl⟩
          rw [hl5] at u9
          have e5 : (n5 : Int) - 1 = (l5 : Nat) := by omega
          have e6 : l5 < n5 := by omega
          have e9 : IntKind.i64.wrap (l5 : Int) = (l5 : Nat) := by rw [IntKind.wrap_i64]; omega
          have e6' : (l5 : Int) < (n5 : Int) := by omega
          have hx0 : xs.getD 0 0 ∈ xs := getD_in (by rw [HL.out]; omega)
          have hx9 : xs.getD l5 0 ∈ xs := getD_in (by rw [HL.out]; omega)
          obtain ⟨z0, hz0⟩ : ∃ z0, xs.getD 0 0 = z0 := ⟨_, rfl⟩
          obtain ⟨z9, hz9⟩ : ∃ z9, xs.getD l5 0 = z9 := ⟨_, rfl⟩
          rw [hz0] at u0 hx0
          rw [hz9] at u9 hx9
          clear hca hz0 hz9 hl5
          have hsz : w1.heap.size ≤ wr.heap.size := RX.since.size
          have hb := RX.since
          have hn40 : n5 ≤ 40 := by omega
          by_cases htn : t < ne
          · have htn' : (t : Int) < (ne : Int) := by omega
            obtain ⟨be, oe, rfl, _, hce⟩ := (HE.out.later RX.since).cells (by omega)
            have ub := hce t htn
            obtain ⟨eb, heb⟩ : ∃ eb, E t = eb := ⟨_, rfl⟩
            rw [heb] at ub
            clear hce heb
            cases eb with
            | true =>
              go_wp2_with (first | (go_at_call 19; ((with_reducible refine (RX.unlink HU.out HQ.out hx9).mono ?_); rintro e w6 ⟨rfl, RX6⟩)) | (go_at_call 20; ((with_reducible refine (RX6.without RX6.since.size HL.out hn40 z9).mono ?_); rintro e w7 ⟨a7, m7, c7, rfl, hm7, RX7⟩)) | (go_at_call 10; ((with_reducible refine (RX7.check HU.out HQ.out hm7).mono ?_); rintro e w8 ⟨rfl, hg8⟩)))
              have hless := filter_less hx9
              rw [hm7, HL.out] at hless
              go_roundw
              case rel => exact ⟨_, m7, t + 1, a7, c7, rfl, by go_num, hm7, by omega, RX7.later hg8⟩
              case measure => exact hless
            | false =>
              go_wp2_with (first | (go_at_call 19; ((with_reducible refine (RX.unlink HU.out HQ.out hx0).mono ?_); rintro e w6 ⟨rfl, RX6⟩)) | (go_at_call 20; ((with_reducible refine (RX6.without RX6.since.size HL.out hn40 z0).mono ?_); rintro e w7 ⟨a7, m7, c7, rfl, hm7, RX7⟩)) | (go_at_call 10; ((with_reducible refine (RX7.check HU.out HQ.out hm7).mono ?_); rintro e w8 ⟨rfl, hg8⟩)))
              have hless := filter_less hx0
              rw [hm7, HL.out] at hless
              go_roundw
              case rel => exact ⟨_, m7, t + 1, a7, c7, rfl, by go_num, hm7, by omega, RX7.later hg8⟩
              case measure => exact hless
          · have htn' : ¬ (t : Int) < (ne : Int) := by omega
            go_wp2_with (first | (go_at_call 19; ((with_reducible refine (RX.unlink HU.out HQ.out hx0).mono ?_); rintro e w6 ⟨rfl, RX6⟩)) | (go_at_call 20; ((with_reducible refine (RX6.without RX6.since.size HL.out hn40 z0).mono ?_); rintro e w7 ⟨a7, m7, c7, rfl, hm7, RX7⟩)) | (go_at_call 10; ((with_reducible refine (RX7.check HU.out HQ.out hm7).mono ?_); rintro e w8 ⟨rfl, hg8⟩)))
            have hless := filter_less hx0
            rw [hm7, HL.out] at hless
            go_roundw
            case rel => exact ⟨_, m7, t + 1, a7, c7, rfl, by go_num, hm7, by omega, RX7.later hg8⟩
            case measure => exact hless
    · obtain rfl : q = 8 := by omega
      go_wp2
      go_ret
      exact ⟨by simp, grown_trans HS.out RE.since⟩
theorem walk {la lb le : Option Addr} {n c m cm ne ce : Nat} {A B C X Y : Nat → Nat} {E : Nat → Bool} {w : World} (hc : n ≤ c) (hn : n ≤ maxLen) (hp : PiecesAt w la n A B C) (_ : m ≤ cm) (hm : m ≤ maxLen) (hs : StepsAt w lb m X Y) (_ : ne ≤ ce) (hne : ne ≤ maxLen) (he : BoolsAt w le ne E) :
    Calls Try.prog 6 #[.slice la n c, .slice lb m cm, .slice le ne ce] w fun e w' => e = .returned (.bool true) ∧ Below w.heap.size w w' :=
  (core hp hc hn hs hm he hne).mono fun e w' ⟨h1, h2⟩ => ⟨h1, grown_below h2⟩

theorem laidOut : laidOutB Try.prog = true := by kernel_rfl
/-! ### The row's step: the guide's frame -/
theorem own : ownKnob Try.prog.godebug = none := by kernel_rfl
set_option maxRecDepth 100000 in
theorem lifted (os : Os) (started : os.Started) (H : Type) (enc : TypeId × Value → H) :
    ReturnsInHanded {} Try.checked os 6 .any (Rows.ledgerEndsSpec.pre6 enc Try.prog Try.f6 Rows.ledgerEndsRow.domain false) (Rows.ledgerEndsSpec.post enc Try.prog Try.f6 false true false false) := by
  refine returnsInHanded_of_change (C := Try.checked) own started (by kernel_rfl) Try.func6
    (ChangeSpec.witness6 (enc := enc) (C := Try.checked) false ⟨#[], #[.slice none 0 0, .slice none 0 0, .slice none 0 0], []⟩ 8 (by kernel_rfl) (by kernel_rfl) (by kernel_rfl) (by kernel_rfl)) ?_
  intro W base args ds gs before hval0 hW hcnd _
  have hval : ∀ (j : Nat) t v, Try.f6.params[j]? = some t → args[j]? = some v → Value.okWide Try.prog W .any base t v := hval0
  have hW' := hW
  obtain ⟨p, q, hA0, hV, rfl, hfz, hnd⟩ := hW
  have hA : DataW.TrodAll enc Try.prog W 0 (fun _ => true) true Try.f6.params.toList args.toList ds p := hA0
  rw [Try.params6] at hA hval
  obtain ⟨v0, vs0, d0, ds0, p0, q0, hargs, rfl, rfl, h0, r0⟩ := trodAll_cons hA
  obtain ⟨v1, vs1, d1, ds1, p1, q1, rfl, rfl, rfl, h1, r1⟩ := trodAll_cons r0
  obtain ⟨v2, vs2, d2, ds2, p2, q2, rfl, rfl, rfl, h2, r2⟩ := trodAll_cons r1
  obtain ⟨rfl, rfl, rfl⟩ := trodAll_nil r2
  obtain rfl : args = #[v0, v1, v2] := by cases args; simp_all
  obtain ⟨rfl, rfl⟩ := trodVars_none hV
  have lt0 : ∀ x ∈ p0, x.block < W.heap.size := by obtain ⟨m, hm⟩ := h0; exact DataW.trod_lt m _ _ _ hm
  obtain ⟨la0, n0, c0, A0, B0, C0, rfl, hc0, hn0, hp0⟩ := open_pieces (hval 0 34 v0 rfl rfl) h0
  have lt1 : ∀ x ∈ p1, x.block < W.heap.size := by obtain ⟨m, hm⟩ := h1; exact DataW.trod_lt m _ _ _ hm
  obtain ⟨la1, n1, c1, A1, B1, rfl, hc1, hn1, hp1⟩ := open_steps (hval 1 35 v1 rfl rfl) h1
  have lt2 : ∀ x ∈ p2, x.block < W.heap.size := by obtain ⟨m, hm⟩ := h2; exact DataW.trod_lt m _ _ _ hm
  obtain ⟨la2, n2, c2, A2, rfl, hc2, hn2, hp2⟩ := open_bools (hval 2 48 v2 rfl rfl) h2
  clear hA0 hval0
  refine (walk hc0 hn0 hp0 hc1 hn1 hp1 hc2 hn2 hp2).mono fun e W' ⟨he, bel⟩ => ?_
  subst he
  exact ⟨_, rfl, _, _, _, [], _, [], hW', trodAll_mk1 (shut_bool Try.underlying4 _), (trodAll_cons_mk (Below.trod laidOut (by kernel_rfl) (of_decide_eq_true (by kernel_rfl)) h0 bel lt0) (trodAll_cons_mk (Below.trod laidOut (by kernel_rfl) (of_decide_eq_true (by kernel_rfl)) h1 bel lt1) (trodAll_cons_mk (Below.trod laidOut (by kernel_rfl) (of_decide_eq_true (by kernel_rfl)) h2 bel lt2) trodAll_mk0))), rfl, bel.frame _, fun h => by cases h⟩

theorem over : Rows.ledgerEndsRow.holds Try.pinned (OpenSpec.ofChange Rows.ledgerEndsSpec) :=
  OpenClaim.holds_of_wide 6 Try.f6 rfl rfl rfl rfl rfl rfl rfl ⟨rfl, rfl, rfl, rfl, rfl⟩ rfl rfl rfl rfl rfl (by kernel_rfl) Try.func6 (by kernel_rfl)
    (of_decide_eq_true (by kernel_rfl)) (by unfold Func.isWrapper; first | (rw [if_pos (by decide +kernel)]; kernel_rfl) | (rw [if_neg (by decide +kernel)]; exact ⟨rfl, rfl⟩))
    (fun os started H enc _ => lifted os started H enc)

theorem proved : Rows.LedgerEndsSaid :=
  over
#print axioms proved


end Go.Proofs.Ytkpopaadkfgjaaa.ledgerEnds
