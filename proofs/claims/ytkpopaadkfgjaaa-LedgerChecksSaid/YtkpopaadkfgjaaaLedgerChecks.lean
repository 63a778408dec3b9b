/-
  Whether any client's list is just any blocks, whatever words stand in a segment. The statement LedgerChecks, for all pairs, every client's number, and all blocks; no condition.
-/
import Derived.Test.YtkpopaadkfgjaaaLedW
import Derived.Test.YtkpopaadkfgjaaaLedGC
namespace Go.Proofs.Ytkpopaadkfgjaaa.ledgerChecks
open Go.ChangeShapes Go.WideShapes Go.ChangeAt Go.RowKit
set_option linter.unusedVariables false
set_option linter.unusedSimpArgs false
set_option maxRecDepth 100000

theorem think_len (ws : List Nat) (X V : Nat → Nat) : ∀ k, (thinkL ws X V k).length ≤ k := by
  intro k
  induction k with
  | zero => exact Nat.le_refl _
  | succ k ih =>
    exact Nat.le_trans (txStore_len _ _ _ _) (by omega)
set_option maxHeartbeats 8000000 in
theorem core {w : World} {la lb : Option Addr} {n c cb : Nat} {X V : Nat → Nat} {xs : List Nat} (hn : n ≤ maxLen) (hp : PutsAt w la n X V) (d : Int) (hw : WordsAt w lb xs) (hx64 : ∀ i, xs.getD i 0 < 18446744073709551616) (hxm : xs.length ≤ maxLen) :
    Calls Try.prog 3 #[.slice la n c, .int .i64 d, .slice lb xs.length cb] w fun e w' => e = .returned (.bool true) ∧ w.grownBy w' none := by
  obtain ⟨m, hm⟩ : ∃ m, xs.length = m := ⟨_, rfl⟩
  rw [hm]
  unfold maxLen at hxm
  by_cases h20 : m ≤ 20
  · have h20' : ¬ (20 : Int) < (m : Int) := by omega
    have hfo : ∀ w1, w.grownBy w1 none → Calls Try.prog 9 #[.int .u64 4480, .slice la n c] w1 (Formed w1 (fmt48 4480) (thinkL (fmt48 4480) X V (min n 60))) := fun (w1 : World) (hg : w.grownBy w1 none) => formed9_any (w := w1) (n := 4480) (c2 := c) (by decide) (hp.later hg) hn
    have hwl := fun (w1 : World) (hg : w.grownBy w1 none) => hw.later hg
    obtain ⟨l, hl⟩ : ∃ l, thinkL (fmt48 4480) X V (min n 60) = l := ⟨_, rfl⟩
    have hll : l.length ≤ 1000000 := by rw [← hl]; have := think_len (fmt48 4480) X V (min n 60); omega
    have hlen : (fmt48 4480).length ≤ 131072 := by rw [fmt48_len]; decide
    obtain ⟨ws, hws⟩ : ∃ ws, fmt48 4480 = ws := ⟨_, rfl⟩
    rw [hl, hws] at hfo
    rw [hws] at hlen
    have HX := Lib.hid hx64
    have HM := Lib.hid hm
    have HWL := Lib.hid hwl
    have HLL := Lib.hid hll
    have HLE := Lib.hid hlen
    clear hp hw hl hws hx64 hm hwl hll hlen
    obtain ⟨b0, hb0⟩ : ∃ b0, decide (ckL (txSee ws l) (cGet ws l d 8) xs) = b0 := ⟨_, rfl⟩
    have HB := Lib.hid hb0
    clear hb0
    go_enter Try.func3, Try.ntmps3
    go_wp2_with (first | (go_at_call 8; ((with_reducible refine (awake9 _).mono ?_); rintro e w1 ⟨rfl, hg1⟩)) | (go_at_call 9; go_must ((with_reducible refine (hfo _ hg1).mono ?_); rintro e w2 ⟨B, D, T, M, R, wv, pv, rfl, X1, hrt, _⟩; obtain ⟨wa, wn, wc, hwv⟩ := wv_form hrt.words; subst hwv; obtain ⟨pa, pn, pc, hpv⟩ := pv_form hrt.puts; subst hpv)))
    have hg2 : w.grownBy w2 none := grown_trans hg1 X1.since
    obtain ⟨W3, hW3⟩ : ∃ W3, w2.alloc (.cells #[.slice wa wn wc, .slice pa pn pc] 27) = W3 := ⟨_, rfl⟩
    have hg3 : w2.grownBy W3 none := by rw [← hW3]; exact World.grownBy_alloc _ _ _
    have hbx : W3.heap[w2.heap.size]? = some (.cells #[.slice wa wn wc, .slice pa pn pc] 27 (0, 0)) := by rw [← hW3]; exact heap_alloc_new' _ _
    rw [hW3]
    obtain ⟨ob, hob⟩ : ∃ ob, w2.heap.size = ob := ⟨_, rfl⟩
    rw [hob] at hbx ⊢
    have hcl : ∀ w', W3.grownBy w' none → w'.cell? ⟨ob, 0, none⟩ = some (.slice wa wn wc) ∧ w'.cell? ⟨ob, 1, none⟩ = some (.slice pa pn pc) := fun w' hg => by
      obtain ⟨h1, h2, _⟩ := tx_cells ((hg.block _ (lt_of_block hbx) (by simp)).trans hbx)
      exact ⟨h1, h2⟩
    have hlc := fun (w' : World) (hg : W3.grownBy w' none) => lcheck_any (c := cb) ((X1.later hg3).later hg).tx HLE.out (HWL.out _ (grown_trans hg2 (grown_trans hg3 hg))) HM.out (by omega) HX.out d
    have hrc := fun (w' : World) (hg : W3.grownBy w' none) => rcheck9_any (c := cb) (hrt.later (grown_trans hg3 hg)) HLE.out HLL.out (HWL.out _ (grown_trans hg2 (grown_trans hg3 hg))) HM.out (by omega) HX.out d
    rw [HB.out] at hlc hrc
    obtain ⟨p0, p1⟩ := hcl _ (grown_refl W3 none)
    have HG0 := grown_trans hg2 hg3
    clear hW3 hg3 hbx hob hg2 hg1 hfo X1 hrt
    go_region_held3 (fun w' => w'.cell? ⟨ob, 0, none⟩ = some (.slice wa wn wc) ∧ w'.cell? ⟨ob, 1, none⟩ = some (.slice pa pn pc)) (go_keep)
      (first | (go_at_call 10; ((with_reducible refine (hlc _ (grown_drew (grown_refl _ none))).mono ?_); rintro e w7 ⟨rfl, hg7⟩; have HG := grown_trans (grown_drew (grown_refl W3 none)) hg7; obtain ⟨m0, m1⟩ := hcl _ HG)) | (go_at_call 11; ((with_reducible refine (hrc _ HG).mono ?_); rintro e w8 ⟨rfl, hg8⟩; replace HG := grown_trans HG hg8; obtain ⟨m0, m1⟩ := hcl _ HG)))
    go_wp2
    go_ret
    exact ⟨by simp, grown_trans HG0 HG⟩
  · have h20' : (20 : Int) < (m : Int) := by omega
    clear hp hw hx64 hm
    go_enter Try.func3, Try.ntmps3
    go_wp2_with (go_at_call 8; ((with_reducible refine (awake9 _).mono ?_); rintro e w1 ⟨rfl, hg1⟩))
    go_ret
    exact ⟨rfl, hg1⟩
theorem walk {la lb : Option Addr} {n c cb : Nat} {X V : Nat → Nat} {xs : List Nat} {w : World} (hn : n ≤ maxLen) (hp : PutsAt w la n X V) (d : Int) (_ : (Lit.int .i64 d).wf = true) (_ : xs.length ≤ cb) (hxm : xs.length ≤ maxLen) (hx64 : ∀ i, xs.getD i 0 < 18446744073709551616) (hw : WordsAt w lb xs) :
    Calls Try.prog 3 #[.slice la n c, .int .i64 d, .slice lb xs.length cb] w fun e w' => e = .returned (.bool true) ∧ Below w.heap.size w w' :=
  (core hn hp d hw hx64 hxm).mono fun e w' ⟨h1, h2⟩ => ⟨h1, grown_below h2⟩

theorem laidOut : laidOutB Try.prog = true := by kernel_rfl
/-! ### The row's step: the guide's frame -/
theorem own : ownKnob Try.prog.godebug = none := by kernel_rfl
set_option maxRecDepth 100000 in
theorem lifted (os : Os) (started : os.Started) (H : Type) (enc : TypeId × Value → H) :
    ReturnsInHanded {} Try.checked os 3 .any (Rows.ledgerChecksSpec.pre6 enc Try.prog Try.f3 Rows.ledgerChecksRow.domain false) (Rows.ledgerChecksSpec.post enc Try.prog Try.f3 false true false false) := by
  refine returnsInHanded_of_change (C := Try.checked) own started (by kernel_rfl) Try.func3
    (ChangeSpec.witness6 (enc := enc) (C := Try.checked) false ⟨#[], #[.slice none 0 0, .int .i64 0, .slice none 0 0], []⟩ 8 (by kernel_rfl) (by kernel_rfl) (by kernel_rfl) (by kernel_rfl)) ?_
  intro W base args ds gs before hval0 hW hcnd _
  have hval : ∀ (j : Nat) t v, Try.f3.params[j]? = some t → args[j]? = some v → Value.okWide Try.prog W .any base t v := hval0
  have hW' := hW
  obtain ⟨p, q, hA0, hV, rfl, hfz, hnd⟩ := hW
  have hA : DataW.TrodAll enc Try.prog W 0 (fun _ => true) true Try.f3.params.toList args.toList ds p := hA0
  rw [Try.params3] at hA hval
  obtain ⟨v0, vs0, d0, ds0, p0, q0, hargs, rfl, rfl, h0, r0⟩ := trodAll_cons hA
  obtain ⟨v1, vs1, d1, ds1, p1, q1, rfl, rfl, rfl, h1, r1⟩ := trodAll_cons r0
  obtain ⟨v2, vs2, d2, ds2, p2, q2, rfl, rfl, rfl, h2, r2⟩ := trodAll_cons r1
  obtain ⟨rfl, rfl, rfl⟩ := trodAll_nil r2
  obtain rfl : args = #[v0, v1, v2] := by cases args; simp_all
  obtain ⟨rfl, rfl⟩ := trodVars_none hV
  have lt0 : ∀ x ∈ p0, x.block < W.heap.size := by obtain ⟨m, hm⟩ := h0; exact DataW.trod_lt m _ _ _ hm
  obtain ⟨la0, n0, c0, X0, V0, rfl, hn0, hp0⟩ := open_puts (hval 0 22 v0 rfl rfl) h0
  obtain ⟨a1, rfl, rfl, rfl, w1⟩ := open_int Try.underlying3 (hval 1 3 v1 rfl rfl) h1
  have lt2 : ∀ x ∈ p2, x.block < W.heap.size := by obtain ⟨m, hm⟩ := h2; exact DataW.trod_lt m _ _ _ hm
  obtain ⟨la2, c2, xs2, rfl, hc2, hn2, hx2, hp2⟩ := open_words9 (hval 2 23 v2 rfl rfl) h2
  clear hA0 hval0
  refine (walk hn0 hp0 a1 w1 hc2 hn2 hx2 hp2).mono fun e W' ⟨he, bel⟩ => ?_
  subst he
  exact ⟨_, rfl, _, _, _, [], _, [], hW', trodAll_mk1 (shut_bool Try.underlying4 _), (trodAll_cons_mk (Below.trod laidOut (by kernel_rfl) (of_decide_eq_true (by kernel_rfl)) h0 bel lt0) (trodAll_cons_mk (shut_int Try.underlying3 w1) (trodAll_cons_mk (Below.trod laidOut (by kernel_rfl) (of_decide_eq_true (by kernel_rfl)) h2 bel lt2) trodAll_mk0))), rfl, bel.frame _, fun h => by cases h⟩

theorem over : Rows.ledgerChecksRow.holds Try.pinned (OpenSpec.ofChange Rows.ledgerChecksSpec) :=
  OpenClaim.holds_of_wide 3 Try.f3 rfl rfl rfl rfl rfl rfl rfl ⟨rfl, rfl, rfl, rfl, rfl⟩ rfl rfl rfl rfl rfl (by kernel_rfl) Try.func3 (by kernel_rfl)
    (of_decide_eq_true (by kernel_rfl)) (by unfold Func.isWrapper; first | (rw [if_pos (by decide +kernel)]; kernel_rfl) | (rw [if_neg (by decide +kernel)]; exact ⟨rfl, rfl⟩))
    (fun os started H enc _ => lifted os started H enc)

theorem proved : Rows.LedgerChecksSaid :=
  over
#print axioms proved


end Go.Proofs.Ytkpopaadkfgjaaa.ledgerChecks
