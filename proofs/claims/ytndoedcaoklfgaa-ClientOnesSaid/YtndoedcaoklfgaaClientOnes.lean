/-
  What is done to a client is nothing to any other one. The statement ClientOnes, for all words, every deed, and every client's number; no condition.
-/
import Derived.Test.YtndoedcaoklfgaaCliG
namespace Go.Proofs.Ytndoedcaoklfgaa.clientOnes
open Go.ChangeShapes Go.WideShapes Go.ChangeAt Go.RowKit
set_option linter.unusedVariables false
set_option linter.unusedSimpArgs false

theorem set_other {n : Nat} {l : List (Nat × Nat)} {c d : Int} {q v r : Nat} (h : c ≠ d) : cGet (fmt48 n) (cSet (fmt48 n) l d q v) c r = cGet (fmt48 n) l c r := by
  by_cases hs : slotP d q
  · rw [get_set hs, if_neg (fun e => h e.1)]
  · rw [set_not hs]
theorem deal_other {n : Nat} {l : List (Nat × Nat)} {a c d : Int} {off r : Nat} (h : c ≠ d) : cGet (fmt48 n) (dealL (fmt48 n) l a d off) c r = cGet (fmt48 n) l c r := by
  unfold dealL attL detL
  split
  · split
    · exact set_other h
    · rfl
  · split
    · split
      · exact set_other h
      · rfl
    · split
      · exact set_other h
      · split
        · exact set_other h
        · exact set_other h
set_option maxRecDepth 100000 in
set_option maxHeartbeats 8000000 in
theorem core {la : Option Addr} {m k : Nat} {X V : Nat → Nat} (hm : m ≤ maxLen) {w : World} (hp : PutsAt w la m X V) (a d : Int) (off : Nat) (ho : off < 18446744073709551616) (c : Int) :
    Calls Try.prog 7 #[.slice la m k, .agg #[.int .i64 a, .int .i64 d, .int .u64 off], .int .i64 c] w fun e w' => e = .returned (.bool true) ∧ w.grownBy w' none := by
  have hfo : ∀ w1, w.grownBy w1 none → Calls Try.prog 10 #[.int .u64 4480, .slice la m k] w1 _ := fun w1 hg => formed8_any (n := 4480) (c2 := k) (by decide) (hp.later hg) hm
  obtain ⟨l, hl⟩ : ∃ l, thinkL (fmt48 4480) X V (min m 60) = l := ⟨_, rfl⟩
  rw [hl] at hfo
  clear hl hp hm
  have hst := fun (w : World) (T M : Nat) (R : Option Nat) (B D : Nat) (h : Thinks w T M R B D (fmt48 4480) l) => cstate_any h c
  have hhe := fun (w : World) (T M : Nat) (R : Option Nat) (B D : Nat) (h : Thinks w T M R B D (fmt48 4480) l) => chead_any h c
  have hdo := fun (w : World) (T M : Nat) (R : Option Nat) (B D : Nat) (h : Thinks w T M R B D (fmt48 4480) l) => do8_any h a d off ho
  have hst2 := fun (w : World) (T M : Nat) (R : Option Nat) (B D : Nat) (h : Thinks w T M R B D (fmt48 4480) (dealL (fmt48 4480) l a d off)) => cstate_any h c
  have hhe2 := fun (w : World) (T M : Nat) (R : Option Nat) (B D : Nat) (h : Thinks w T M R B D (fmt48 4480) (dealL (fmt48 4480) l a d off)) => chead_any h c
  have hg0 : w.grownBy (w.alloc (.cells #[.int .i64 a, .int .i64 d, .int .u64 off] 33)) none := World.grownBy_alloc _ _ _
  have hoth : ∀ r, c ≠ d → cGet (fmt48 4480) (dealL (fmt48 4480) l a d off) c r = cGet (fmt48 4480) l c r := fun r h => deal_other h
  obtain ⟨ws, hws⟩ : ∃ ws, fmt48 4480 = ws := ⟨_, rfl⟩
  rw [hws] at hfo hst hhe hdo hst2 hhe2 hoth
  clear hws
  obtain ⟨l2, hl2⟩ : ∃ l2, dealL ws l a d off = l2 := ⟨_, rfl⟩
  rw [hl2] at hdo hst2 hhe2 hoth
  clear hl2
  have HG := Lib.hid hg0
  clear hg0
  by_cases hcd : c = d
  · subst hcd
    clear hoth hst2 hhe2
    go_enter Try.func7, Try.ntmps7
    go_wp2_with (first | (go_at_call 9; ((with_reducible refine (awake8 _).mono ?_); rintro e w1 ⟨rfl, hg1⟩)) | (go_at_call 10; ((with_reducible refine (hfo _ (grown_trans HG.out hg1)).mono ?_); rintro e w2 ⟨B, D, T, M, R, wv, pv, rfl, X1, hrt, _⟩; obtain ⟨wa, wn, wc, hwv⟩ := wv_form hrt.words; subst hwv; obtain ⟨pa, pn, pc, hpv⟩ := pv_form hrt.puts; subst hpv; have X2 := X1.later (World.grownBy_alloc w2 (.cells #[.slice wa wn wc, .slice pa pn pc] 29) none))) | (go_at_call 14; ((with_reducible refine (hst _ _ _ _ _ _ X2.tx).mono ?_); rintro e w3 ⟨rfl, hg3⟩; have X3 := X2.later hg3)) | (go_at_call 16; ((with_reducible refine (hhe _ _ _ _ _ _ X3.tx).mono ?_); rintro e w4 ⟨rfl, hg4⟩; have X4 := X3.later hg4; obtain ⟨q0, q1, q2⟩ := tag_cells (tag_first (grown_trans hg1 X4.since)))) | (go_at_call 11; ((with_reducible refine (hdo _ _ _ _ _ _ X4.tx).mono ?_); rintro e w5 ⟨rfl, ht5⟩; obtain ⟨R5, X5, _⟩ := X4.step ht5; obtain ⟨z0, z1, z2⟩ := tag_cells (tag_first (grown_trans hg1 X5.since)))))
    go_ret
    exact ⟨ret_bool' (by simp), grown_trans HG.out (grown_trans hg1 X5.since)⟩
  · rw [hoth 0 hcd] at hst2
    rw [hoth 8 hcd] at hhe2
    obtain ⟨x, hx⟩ : ∃ x, cGet ws l c 0 = x := ⟨_, rfl⟩
    obtain ⟨y, hy⟩ : ∃ y, cGet ws l c 8 = y := ⟨_, rfl⟩
    rw [hx] at hst hst2
    rw [hy] at hhe hhe2
    clear hoth hx hy
    have hb : (c == d) = false := by rw [beq_eq_false_iff_ne]; exact hcd
    clear hcd
    go_enter Try.func7, Try.ntmps7
    go_wp2_with (first | (go_at_call 9; ((with_reducible refine (awake8 _).mono ?_); rintro e w1 ⟨rfl, hg1⟩)) | (go_at_call 10; ((with_reducible refine (hfo _ (grown_trans HG.out hg1)).mono ?_); rintro e w2 ⟨B, D, T, M, R, wv, pv, rfl, X1, hrt, _⟩; obtain ⟨wa, wn, wc, hwv⟩ := wv_form hrt.words; subst hwv; obtain ⟨pa, pn, pc, hpv⟩ := pv_form hrt.puts; subst hpv; have X2 := X1.later (World.grownBy_alloc w2 (.cells #[.slice wa wn wc, .slice pa pn pc] 29) none))) | (go_at_call 14; ((with_reducible refine (hst _ _ _ _ _ _ X2.tx).mono ?_); rintro e w3 ⟨rfl, hg3⟩; have X3 := X2.later hg3)) | (go_at_call 16; ((with_reducible refine (hhe _ _ _ _ _ _ X3.tx).mono ?_); rintro e w4 ⟨rfl, hg4⟩; have X4 := X3.later hg4; obtain ⟨q0, q1, q2⟩ := tag_cells (tag_first (grown_trans hg1 X4.since)))) | (go_at_call 11; ((with_reducible refine (hdo _ _ _ _ _ _ X4.tx).mono ?_); rintro e w5 ⟨rfl, ht5⟩; obtain ⟨R5, X5, _⟩ := X4.step ht5; obtain ⟨z0, z1, z2⟩ := tag_cells (tag_first (grown_trans hg1 X5.since)))) | (go_at_call 14; ((with_reducible refine (hst2 _ _ _ _ _ _ X5.tx).mono ?_); rintro e w6 ⟨rfl, hg6⟩; have X6 := X5.later hg6)) | (go_at_call 16; ((with_reducible refine (hhe2 _ _ _ _ _ _ X6.tx).mono ?_); rintro e w7 ⟨rfl, hg7⟩; have X7 := X6.later hg7)))
    go_ret
    exact ⟨ret_bool' (by simp), grown_trans HG.out (grown_trans hg1 X7.since)⟩
theorem walk {la : Option Addr} {m k : Nat} {X V : Nat → Nat} (hm : m ≤ maxLen) {w : World} (hp : PutsAt w la m X V) (a d : Int) (off : Nat) (ho : off < 18446744073709551616) (c : Int) (_ : (Lit.int .i64 c).wf = true) :
    Calls Try.prog 7 #[.slice la m k, .agg #[.int .i64 a, .int .i64 d, .int .u64 off], .int .i64 c] w fun e w' => e = .returned (.bool true) ∧ Below w.heap.size w w' :=
  (core hm hp a d off ho c).mono fun e w' ⟨h1, h2⟩ => ⟨h1, grown_below h2⟩

theorem laidOut : laidOutB Try.prog = true := by kernel_rfl
/-! ### The row's step: the guide's frame -/
theorem own : ownKnob Try.prog.godebug = none := by kernel_rfl
set_option maxRecDepth 100000 in
theorem lifted (os : Os) (started : os.Started) (H : Type) (enc : TypeId × Value → H) :
    ReturnsInHanded {} Try.checked os 7 .any (Rows.clientOnesSpec.pre6 enc Try.prog Try.f7 Rows.clientOnesRow.domain false) (Rows.clientOnesSpec.post enc Try.prog Try.f7 false true false false) := by
  refine returnsInHanded_of_change (C := Try.checked) own started (by kernel_rfl) Try.func7
    (ChangeSpec.witness6 (enc := enc) (C := Try.checked) false ⟨#[], #[.slice none 0 0, .agg #[.int .i64 0, .int .i64 0, .int .u64 0], .int .i64 0], []⟩ 8 (by kernel_rfl) (by kernel_rfl) (by kernel_rfl) (by kernel_rfl)) ?_
  intro W base args ds gs before hval0 hW hcnd _
  have hval : ∀ (j : Nat) t v, Try.f7.params[j]? = some t → args[j]? = some v → Value.okWide Try.prog W .any base t v := hval0
  have hW' := hW
  obtain ⟨p, q, hA0, hV, rfl, hfz, hnd⟩ := hW
  have hA : DataW.TrodAll enc Try.prog W 0 (fun _ => true) true Try.f7.params.toList args.toList ds p := hA0
  rw [Try.params7] at hA hval
  obtain ⟨v0, vs0, d0, ds0, p0, q0, hargs, rfl, rfl, h0, r0⟩ := trodAll_cons hA
  obtain ⟨v1, vs1, d1, ds1, p1, q1, rfl, rfl, rfl, h1, r1⟩ := trodAll_cons r0
  obtain ⟨v2, vs2, d2, ds2, p2, q2, rfl, rfl, rfl, h2, r2⟩ := trodAll_cons r1
  obtain ⟨rfl, rfl, rfl⟩ := trodAll_nil r2
  obtain rfl : args = #[v0, v1, v2] := by cases args; simp_all
  obtain ⟨rfl, rfl⟩ := trodVars_none hV
  have lt0 : ∀ x ∈ p0, x.block < W.heap.size := by obtain ⟨m, hm⟩ := h0; exact DataW.trod_lt m _ _ _ hm
  obtain ⟨la0, n0, c0, X0, V0, rfl, hn0, hp0⟩ := open_puts (hval 0 22 v0 rfl rfl) h0
  have lt1 : ∀ x ∈ p1, x.block < W.heap.size := by obtain ⟨m, hm⟩ := h1; exact DataW.trod_lt m _ _ _ hm
  obtain ⟨d1, c1, o1, rfl, ho1⟩ := open_deed (hval 1 33 v1 rfl rfl) h1
  obtain ⟨a2, rfl, rfl, rfl, w2⟩ := open_int Try.underlying3 (hval 2 3 v2 rfl rfl) h2
  clear hA0 hval0
  refine (walk hn0 hp0 d1 c1 o1 ho1 a2 w2).mono fun e W' ⟨he, bel⟩ => ?_
  subst he
  exact ⟨_, rfl, _, _, _, [], _, [], hW', trodAll_mk1 (shut_bool Try.underlying4 _), (trodAll_cons_mk (Below.trod laidOut (by kernel_rfl) (of_decide_eq_true (by kernel_rfl)) h0 bel lt0) (trodAll_cons_mk (Below.trod laidOut (by kernel_rfl) (of_decide_eq_true (by kernel_rfl)) h1 bel lt1) (trodAll_cons_mk (shut_int Try.underlying3 w2) trodAll_mk0))), rfl, bel.frame _, fun h => by cases h⟩

theorem over : Rows.clientOnesRow.holds Try.pinned (OpenSpec.ofChange Rows.clientOnesSpec) :=
  OpenClaim.holds_of_wide 7 Try.f7 rfl rfl rfl rfl rfl rfl rfl ⟨rfl, rfl, rfl, rfl, rfl⟩ rfl rfl rfl rfl rfl (by kernel_rfl) Try.func7 (by kernel_rfl)
    (of_decide_eq_true (by kernel_rfl)) (by unfold Func.isWrapper; first | (rw [if_pos (by decide +kernel)]; kernel_rfl) | (rw [if_neg (by decide +kernel)]; exact ⟨rfl, rfl⟩))
    (fun os started H enc _ => lifted os started H enc)

theorem proved : Rows.ClientOnesSaid :=
  over
#print axioms proved


end Go.Proofs.Ytndoedcaoklfgaa.clientOnes
