/-
  All blocks of a segment of any words, or that there are none. The statement PhysRaw, for every number, and every list of pairs; no condition.
-/
import Derived.Test.YtmhkibdbamhdoaaPhysQ
import Derived.Test.YtmhkibdbamhdoaaPhysH
import Derived.Test.YtmhkibdbamhdoaaPhysO
namespace Go.Proofs.Ytmhkibdbamhdoaa.physRaw
open Go.ChangeShapes Go.WideShapes Go.ChangeAt Go.RowKit
set_option linter.unusedVariables false
set_option linter.unusedSimpArgs false

set_option maxRecDepth 100000 in
set_option maxHeartbeats 8000000 in
theorem core (n : Nat) (hn : n < 18446744073709551616) {la : Option Addr} {m c : Nat} {X V : Nat → Nat} (hm : m ≤ maxLen) {w : World} (hp : PutsAt w la m X V) :
    Calls Try.prog 4 #[.int .u64 n, .slice la m c] w fun e w' => e = .returned (.bool true) ∧ w.grownBy w' none := by
  have hfo := fun (w1 : World) (hg : w.grownBy w1 none) => formed6_any (n := n) (c2 := c) hn (hp.later hg) hm
  have hok := thinkL_ok (ws := fmt48 n) (X := X) (fun i => (hp.lt i).2) (min m 60)
  have hl6 := fmt48_len n
  obtain ⟨ws, ews⟩ : ∃ ws, fmt48 n = ws := ⟨_, rfl⟩
  rw [ews] at hfo hok hl6
  obtain ⟨l, el⟩ : ∃ l, thinkL ws X V (min m 60) = l := ⟨_, rfl⟩
  rw [el] at hfo hok
  have hll : l.length ≤ 1000000 := by have := hok.len; omega
  have hwl : ws.length ≤ 131072 := by omega
  obtain ⟨bl, err, hb⟩ := heap_some ws l hwl
  have hlen := hb.len
  have hwk := fun (w : World) (T M : Nat) (R : Option Nat) (B D : Nat) (h : Thinks w T M R B D ws l) => pwalk_any h hb
  have hrw := fun (w : World) (base : Nat) (wv pv : Value) (hb0 : base ≤ w.heap.size) (hlt : ∀ x ∈ ws, x < 18446744073709551616) (h : RTx w base wv pv ws l) => rwalk_any h hb0 hwl hll hok hlt hb
  obtain ⟨K, hK⟩ : ∃ K, bl.length = K := ⟨_, rfl⟩
  have hsm : ∀ (w : World) (la la2 : Option Addr) (c c2 : Nat) (h : BlksAt w la bl) (h2 : BlksAt w la2 bl), Calls Try.prog 15 #[.slice la K c, .slice la2 K c2] w fun e w' => e = .returned (.bool true) ∧ w.grownBy w' none := fun w la la2 c c2 h h2 => by
    have := same6_yes (c := c) (c2 := c2) h h2 hlen
    rw [hK] at this
    exact this
  have HK := Lib.hid hK
  clear ews el hl6 hwl hll hok
  go_enter Try.func4, Try.ntmps4
  go_wp2_with (first | (go_at_call 9; ((with_reducible refine (awake6 _).mono ?_); rintro e w1 ⟨rfl, hg1⟩)) | (go_at_call 17; ((with_reducible refine (hfo _ hg1).mono ?_); rintro e w2 ⟨B, D, T, M, R, wv, pv, rfl, X1, hrt, _⟩; obtain ⟨wa, wn, wc, hwv⟩ := wv_form hrt.words; subst hwv; obtain ⟨pa, pn, pc, hpv⟩ := pv_form hrt.puts; subst hpv; have hgx := World.grownBy_alloc w2 (.cells #[.slice wa wn wc, .slice pa pn pc] 29) none; have X2 := X1.later hgx; have hrt2 := hrt.later hgx)) | (go_at_call 11; ((with_reducible refine (hwk _ _ _ _ _ _ X2.tx).mono ?_); rintro e w3 ⟨v3, rfl, ho3, hg3⟩; obtain ⟨la3, c3, hv3, hat3⟩ := ho3.at_; rw [HK.out] at hv3; subst hv3; have X3 := X2.later hg3; have hb3 := (hg3.block _ (lt_of_block (heap_alloc_new' w2 _)) (by simp)).trans (heap_alloc_new' w2 (.cells #[.slice wa wn wc, .slice pa pn pc] 29)); obtain ⟨q0, q1⟩ := two_cells hb3; clear hb3)) | (go_at_call 12; ((with_reducible refine (hrw _ _ _ _ (Nat.le_trans X1.since.size (grown_trans hgx hg3).size) X1.tx.seg.words (hrt2.later hg3)).mono ?_); rintro e w4 ⟨v4, rfl, ho4, hg4⟩; obtain ⟨la4, c4, hv4, hat4⟩ := ho4.at_; rw [HK.out] at hv4; subst hv4)) | (go_at_call 15; ((with_reducible refine (hsm _ _ _ _ _ (hat3.later hg4) hat4).mono ?_); rintro e w5 ⟨rfl, hg5⟩)))
  go_ret
  exact ⟨ret_bool' (by simp), grown_trans hg1 (grown_trans X3.since (grown_trans hg4 hg5))⟩
theorem walk (a : Int) (wa : (Lit.int .u64 a).wf = true) {la : Option Addr} {m c : Nat} {X V : Nat → Nat} (hm : m ≤ maxLen) {w : World} (hp : PutsAt w la m X V) :
    Calls Try.prog 4 #[.int .u64 a, .slice la m c] w fun e w' => e = .returned (.bool true) ∧ Below w.heap.size w w' := by
  have b0 := bounds_u64 wa
  obtain ⟨n, rfl⟩ := Int.eq_ofNat_of_zero_le b0.1
  exact (core n (by omega) hm hp).mono fun e w' ⟨h1, h2⟩ => ⟨h1, grown_below h2⟩

theorem laidOut : laidOutB Try.prog = true := by kernel_rfl
/-! ### The row's step: the guide's frame -/
theorem own : ownKnob Try.prog.godebug = none := by kernel_rfl
set_option maxRecDepth 100000 in
theorem lifted (os : Os) (started : os.Started) (H : Type) (enc : TypeId × Value → H) :
    ReturnsInHanded {} Try.checked os 4 .any (Rows.physRawSpec.pre6 enc Try.prog Try.f4 Rows.physRawRow.domain false) (Rows.physRawSpec.post enc Try.prog Try.f4 false true false false) := by
  refine returnsInHanded_of_change (C := Try.checked) own started (by kernel_rfl) Try.func4
    (ChangeSpec.witness6 (enc := enc) (C := Try.checked) false ⟨#[], #[.int .u64 0, .slice none 0 0], []⟩ 8 (by kernel_rfl) (by kernel_rfl) (by kernel_rfl) (by kernel_rfl)) ?_
  intro W base args ds gs before hval0 hW hcnd _
  have hval : ∀ (j : Nat) t v, Try.f4.params[j]? = some t → args[j]? = some v → Value.okWide Try.prog W .any base t v := hval0
  have hW' := hW
  obtain ⟨p, q, hA0, hV, rfl, hfz, hnd⟩ := hW
  have hA : DataW.TrodAll enc Try.prog W 0 (fun _ => true) true Try.f4.params.toList args.toList ds p := hA0
  rw [Try.params4] at hA hval
  obtain ⟨v0, vs0, d0, ds0, p0, q0, hargs, rfl, rfl, h0, r0⟩ := trodAll_cons hA
  obtain ⟨v1, vs1, d1, ds1, p1, q1, rfl, rfl, rfl, h1, r1⟩ := trodAll_cons r0
  obtain ⟨rfl, rfl, rfl⟩ := trodAll_nil r1
  obtain rfl : args = #[v0, v1] := by cases args; simp_all
  obtain ⟨rfl, rfl⟩ := trodVars_none hV
  obtain ⟨a0, rfl, rfl, rfl, w0⟩ := open_int Try.underlying24 (hval 0 24 v0 rfl rfl) h0
  have lt1 : ∀ x ∈ p1, x.block < W.heap.size := by obtain ⟨m, hm⟩ := h1; exact DataW.trod_lt m _ _ _ hm
  obtain ⟨la1, n1, c1, X1, V1, rfl, hn1, hp1⟩ := open_puts (hval 1 23 v1 rfl rfl) h1
  clear hA0 hval0
  refine (walk a0 w0 hn1 hp1).mono fun e W' ⟨he, bel⟩ => ?_
  subst he
  exact ⟨_, rfl, _, _, _, [], _, [], hW', trodAll_mk1 (shut_bool Try.underlying4 _), (trodAll_cons_mk (shut_int Try.underlying24 w0) (trodAll_cons_mk (Below.trod laidOut (by kernel_rfl) (of_decide_eq_true (by kernel_rfl)) h1 bel lt1) trodAll_mk0)), rfl, bel.frame _, fun h => by cases h⟩

theorem over : Rows.physRawRow.holds Try.pinned (OpenSpec.ofChange Rows.physRawSpec) :=
  OpenClaim.holds_of_wide 4 Try.f4 rfl rfl rfl rfl rfl rfl rfl ⟨rfl, rfl, rfl, rfl, rfl⟩ rfl rfl rfl rfl rfl (by kernel_rfl) Try.func4 (by kernel_rfl)
    (of_decide_eq_true (by kernel_rfl)) (by unfold Func.isWrapper; first | (rw [if_pos (by decide +kernel)]; kernel_rfl) | (rw [if_neg (by decide +kernel)]; exact ⟨rfl, rfl⟩))
    (fun os started H enc _ => lifted os started H enc)

theorem proved : Rows.PhysRawSaid :=
  over
#print axioms proved


end Go.Proofs.Ytmhkibdbamhdoaa.physRaw
