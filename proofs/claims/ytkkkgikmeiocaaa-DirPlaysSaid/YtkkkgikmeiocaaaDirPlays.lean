/-
  Whatever words stand in a segment, and whatever names come and go: what is told, and all entries, are the document's. The statement DirPlays; no condition.
-/
import Derived.Test.YtkkkgikmeiocaaaLDik
import Derived.Test.YtkkkgikmeiocaaaLTxa
import Derived.Test.YtkkkgikmeiocaaaRows
import Derived.Lib.SmallJoins
import Derived.ProofKit
import Derived.OpenShut
import Derived.Carry
import Derived.Deep.RegionHeld3
import Derived.ChangeOld
namespace Go.Proofs.Ytkkkgikmeiocaaa.dirPlays
open Go.ChangeShapes Go.WideShapes Go.ChangeAt Go.RowKit
open Go.ChangeMaps (open_string shut_string)
set_option linter.unusedVariables false
set_option linter.unusedSimpArgs false
set_option maxRecDepth 100000

set_option maxHeartbeats 4000000 in
theorem core {w : World} {la lk : Option Addr} {n c n2 c2 : Nat} {X : Nat → Bool} {S : Nat → ByteArray} {O X2 V2 : Nat → Nat} {s : ByteArray} (hp2 : PutsAt w lk n2 X2 V2) (hn2 : n2 ≤ maxLen) (hp : NamesAt w la n X S O) (hn : n ≤ maxLen) (hs : s.size ≤ maxLen) :
    Calls Try.prog 3 #[.slice lk n2 c2, .slice la n c, .string s] w fun e w' => e = .returned (.bool true) ∧ w.grownBy w' none := by
  by_cases h100 : 100 < s.size
  · have hi : (100 : Int) < (s.size : Int) := by omega
    clear h100 hp hp2
    go_enter Try.func3, Try.ntmps3
    go_wp2_with (first | (go_at_call 8; ((with_reducible refine (awake13 _).mono ?_); rintro e w1 ⟨rfl, hg1⟩)))
    go_ret
    exact ⟨rfl, hg1⟩
  · have hi : ¬ (100 : Int) < (s.size : Int) := by omega
    have hpl := fun (V : World) (hg : w.grownBy V none) => played13_any (c := c) (c2 := c2) (hp2.later hg) hn2 (hp.later hg) hn rfl
    obtain ⟨f, ef⟩ : ∃ f, plyW (txSee (fmt48 4480) (thinkL (fmt48 4480) X2 V2 (min n2 60))) X S O (min n 40) = f := ⟨_, rfl⟩
    obtain ⟨ws, ews⟩ : ∃ ws, fmt48 4480 = ws := ⟨_, rfl⟩
    simp only [ef] at hpl
    simp only [ews] at hpl
    have HPL := Lib.hid hpl
    have HS := Lib.hid hs
    clear hpl ef ews h100 hp hp2 hn hn2 hs
    obtain ⟨a, ea⟩ : ∃ a, fndN f s = a := ⟨_, rfl⟩
    obtain ⟨b, eb⟩ : ∃ b, (stN f s).isSome = b := ⟨_, rfl⟩
    obtain ⟨r, er⟩ : ∃ r, roomN f s = r := ⟨_, rfl⟩
    have hr9 : r ≤ 9 := by
      rw [← er]
      unfold roomN
      repeat' split
      all_goals omega
    have hrw : IntKind.i64.wrap (r : Int) = (r : Int) := by rw [IntKind.wrap_i64]; omega
    have hrr : ((r : Int) == (r : Int)) = true := by simp
    have haa : ((a : Int) == (a : Int)) = true := by simp
    have hbb : (b == b) = true := by simp
    obtain ⟨m, em⟩ : ∃ m, nmdF f a 16 0 = m := ⟨_, rfl⟩
    have hmm : (m == m) = true := by simp
    have HA := Lib.hid ea
    have HB := Lib.hid eb
    have HR := Lib.hid er
    have HM := Lib.hid em
    clear ea eb er em hr9
    go_enter Try.func3, Try.ntmps3
    go_wp2_with (first
      | (go_at_call 8; ((with_reducible refine (awake13 _).mono ?_); rintro e w1 ⟨rfl, hg1⟩))
      | (go_at_call 9; go_must ((with_reducible refine (HPL.out _ hg1).mono ?_); rintro e w2 ⟨T, R, wv, pv, rfl, hD, hX, hne⟩; obtain ⟨⟨wa, wn, wc, rfl⟩, pa, pn, pc, rfl⟩ := hX.form; have ga := World.grownBy_alloc w2 (.cells #[.slice wa wn wc, .slice pa pn pc] 28) none; have hbx := heap_alloc_new' w2 (.cells #[.slice wa wn wc, .slice pa pn pc] 28); have HBX := Lib.hid hbx; clear hbx; have D3 := hD.later ga; have X3 := hX.later ga; have G3 := D3.since; have c3 := dfind_c D3 HS.out; rw [HA.out, HB.out] at c3))
      | (go_at_call 10; go_must ((with_reducible refine c3.mono ?_); rintro e w4 ⟨rfl, hg4⟩; have D4 := D3.later hg4; have X4 := X3.later hg4; have b4 := (hg4.block _ (lt_of_block HBX.out) (by simp)).trans HBX.out; obtain ⟨k0, k1, _, _⟩ := tx_cells b4; have HB4 := Lib.hid b4; clear b4; have c4 := rfind13 (X4.lds (by decide)) HS.out; rw [HA.out, HB.out] at c4))
      | (go_at_call 11; go_must ((with_reducible refine c4.mono ?_); rintro e w5 ⟨rfl, hg5⟩; have D5 := D4.later hg5; have X5 := X4.later hg5; have b5 := (hg5.block _ (lt_of_block HB4.out) (by simp)).trans HB4.out; obtain ⟨k0, k1, _, _⟩ := tx_cells b5; have HB5 := Lib.hid b5; clear b5; have c5 := droom_c D5 HS.out; rw [HR.out] at c5)))
    have hcell : ∀ V, w5.grownBy V none → V.cell? ⟨w2.heap.size, 0, none⟩ = some (.slice wa wn wc) ∧ V.cell? ⟨w2.heap.size, 1, none⟩ = some (.slice pa pn pc) := fun V hg => by
      obtain ⟨c0, c1, _, _⟩ := tx_cells ((hg.block _ (lt_of_block HB5.out) (by simp)).trans HB5.out)
      exact ⟨c0, c1⟩
    have HCELL := Lib.hid hcell
    have hlt := fun x => D5.lt x
    have hal := hlt 0
    have ha64 : a < 18446744073709551616 := by
      rw [← HA.out]
      unfold fndN
      split
      · exact D5.lt _
      · decide
    have HRM1 := Lib.hid (fun (V : World) (hg : w5.grownBy V none) => droom_c (D5.later hg) HS.out)
    have HRM2 := Lib.hid (fun (V : World) (hg : w5.grownBy V none) => rroom13 ((X5.later hg).lds (by decide)) HS.out)
    have HAL1 := Lib.hid (fun (V : World) (hg : w5.grownBy V none) => dall_c (D5.later hg))
    have HAL2 := Lib.hid (fun (V : World) (hg : w5.grownBy V none) => rall13 ((X5.later hg).lds (by decide)) hlt)
    have HNM1 := Lib.hid (fun (V : World) (hg : w5.grownBy V none) => dnamed_c (p := a) (D5.later hg) ha64)
    have HNM2 := Lib.hid (fun (V : World) (hg : w5.grownBy V none) => rnamed13 (p := a) ((X5.later hg).lds (by decide)) ha64)
    rw [HR.out] at HRM1 HRM2
    rw [HM.out] at HNM1 HNM2
    have HG5 := Lib.hid D5.since
    have HG : w5.grownBy w5.drew none := grown_drew (grown_refl _ _)
    obtain ⟨k0, k1⟩ := hcell _ HG
    clear hcell hlt hal D3 D4 D5 X3 X4 X5 hD hX hne HB4 HB5 HBX c3 c4 c5
    go_region_held3 (fun V => V.cell? ⟨w2.heap.size, 0, none⟩ = some (.slice wa wn wc) ∧ V.cell? ⟨w2.heap.size, 1, none⟩ = some (.slice pa pn pc)) (exact HCELL.out _ HG) (first
      | (go_at_call 12; (with_reducible refine (HRM1.out _ HG).mono ?_); rintro e w6 ⟨rfl, hg6⟩; replace HG := grown_trans HG hg6; obtain ⟨k0, k1⟩ := HCELL.out _ HG)
      | (go_at_call 13; (with_reducible refine (HRM2.out _ HG).mono ?_); rintro e w6 ⟨rfl, hg6⟩; replace HG := grown_trans HG hg6; obtain ⟨k0, k1⟩ := HCELL.out _ HG)
      | (go_at_call 15; (with_reducible refine (HAL1.out _ HG).mono ?_); rintro e w7 ⟨v1, rfl, ho1, hg6⟩; obtain ⟨a1, c1', hv1⟩ := ho1.form; subst hv1; replace HG := grown_trans HG hg6; obtain ⟨k0, k1⟩ := HCELL.out _ HG)
      | (go_at_call 16; (with_reducible refine (HAL2.out _ HG).mono ?_); rintro e w8 ⟨v2, rfl, ho2, hg6⟩; obtain ⟨a2, c2', hv2⟩ := ho2.form; subst hv2; replace ho1 := ho1.later hg6; replace HG := grown_trans HG hg6; obtain ⟨k0, k1⟩ := HCELL.out _ HG)
      | (go_at_call 14; (with_reducible refine (entries13_same ho1 ho2 (Nat.le_trans (entK_len _ _) (by decide))).mono ?_); rintro e w9 ⟨rfl, hg6⟩; replace HG := grown_trans HG hg6; obtain ⟨k0, k1⟩ := HCELL.out _ HG)
      | (go_at_call 17; (with_reducible refine (HNM1.out _ HG).mono ?_); rintro e w10 ⟨rfl, hg6⟩; replace HG := grown_trans HG hg6; obtain ⟨k0, k1⟩ := HCELL.out _ HG)
      | (go_at_call 18; (with_reducible refine (HNM2.out _ HG).mono ?_); rintro e w11 ⟨rfl, hg6⟩; replace HG := grown_trans HG hg6; obtain ⟨k0, k1⟩ := HCELL.out _ HG))
    go_wp2
    go_ret
    exact ⟨rfl, grown_trans hg1 (grown_trans HG5.out HG)⟩
theorem walk {w : World} {la lk : Option Addr} {n c n2 c2 : Nat} {X : Nat → Bool} {S : Nat → ByteArray} {O X2 V2 : Nat → Nat} (hn2 : n2 ≤ maxLen) (hp2 : PutsAt w lk n2 X2 V2) (_ : n ≤ c) (hn : n ≤ maxLen) (hp : NamesAt w la n X S O) (s : ByteArray) (hs : s.size ≤ maxLen) :
    Calls Try.prog 3 #[.slice lk n2 c2, .slice la n c, .string s] w fun e w' => e = .returned (.bool true) ∧ Below w.heap.size w w' :=
  (core hp2 hn2 hp hn hs).mono fun e w' ⟨h1, h2⟩ => ⟨h1, grown_below h2⟩
theorem laidOut : laidOutB Try.prog = true := by kernel_rfl
/-! ### The row's step: the guide's frame -/
theorem own : ownKnob Try.prog.godebug = none := by kernel_rfl
set_option maxRecDepth 100000 in
theorem lifted (os : Os) (started : os.Started) (H : Type) (enc : TypeId × Value → H) :
    ReturnsInHanded {} Try.checked os 3 .any (Rows.dirPlaysSpec.pre6 enc Try.prog Try.f3 Rows.dirPlaysRow.domain false) (Rows.dirPlaysSpec.post enc Try.prog Try.f3 false true false false) := by
  refine returnsInHanded_of_change (C := Try.checked) own started (by kernel_rfl) Try.func3
    (ChangeSpec.witness6 (enc := enc) (C := Try.checked) false ⟨#[], #[.slice none 0 0, .slice none 0 0, .string ByteArray.empty], []⟩ 8 (by kernel_rfl) (by kernel_rfl) (by kernel_rfl) (by kernel_rfl)) ?_
  intro W base args ds gs before hval0 hW hcnd _
  have hval : ∀ (j : Nat) t v, Try.f3.params[j]? = some t → args[j]? = some v → Value.okWide Try.prog W .any base t v := hval0
  have hW' := hW
  obtain ⟨p, q, hA0, hV, rfl, hfz, hnd⟩ := hW
  have hA : DataW.TrodAll enc Try.prog W 0 (fun _ => true) true Try.f3.params.toList args.toList ds p := hA0
  rw [Try.params3] at hA hval
  obtain ⟨v0, vs0, d0, ds0, p0, q0, hargs, rfl, rfl, h0, r0⟩ := trodAll_cons hA
  obtain ⟨v1, vs1, d1, ds1, p1, q1, rfl, rfl, rfl, h1, r1⟩ := trodAll_cons r0
  obtain ⟨v2, vs2, d2, ds2, p2, q2, rfl, rfl, rfl, h2, r2⟩ := trodAll_cons r1
  obtain ⟨rfl, rfl, rfl⟩ := trodAll_nil r2
  obtain rfl : args = #[v0, v1, v2] := by cases args; simp_all
  obtain ⟨rfl, rfl⟩ := trodVars_none hV
  have lt0 : ∀ x ∈ p0, x.block < W.heap.size := by obtain ⟨m, hm⟩ := h0; exact DataW.trod_lt m _ _ _ hm
  obtain ⟨la0, n0, c0, X0, V0, rfl, hn0, hp0⟩ := open_puts (hval 0 22 v0 rfl rfl) h0
  have lt1 : ∀ x ∈ p1, x.block < W.heap.size := by obtain ⟨m, hm⟩ := h1; exact DataW.trod_lt m _ _ _ hm
  obtain ⟨la1, n1, c1, X1, S1, O1, rfl, hc1, hn1, hp1⟩ := open_names (hval 1 23 v1 rfl rfl) h1
  obtain ⟨a2, rfl, rfl, rfl, w2⟩ := open_string Try.underlying9 (hval 2 9 v2 rfl rfl) h2
  clear hA0 hval0
  refine (walk hn0 hp0 hc1 hn1 hp1 a2 w2).mono fun e W' ⟨he, bel⟩ => ?_
  subst he
  exact ⟨_, rfl, _, _, _, [], _, [], hW', trodAll_mk1 (shut_bool Try.underlying4 _), (trodAll_cons_mk (Below.trod laidOut (by kernel_rfl) (of_decide_eq_true (by kernel_rfl)) h0 bel lt0) (trodAll_cons_mk (Below.trod laidOut (by kernel_rfl) (of_decide_eq_true (by kernel_rfl)) h1 bel lt1) (trodAll_cons_mk (shut_string Try.underlying9 w2) trodAll_mk0))), rfl, bel.frame _, fun h => by cases h⟩

theorem over : Rows.dirPlaysRow.holds Try.pinned (OpenSpec.ofChange Rows.dirPlaysSpec) :=
  OpenClaim.holds_of_wide 3 Try.f3 rfl rfl rfl rfl rfl rfl rfl ⟨rfl, rfl, rfl, rfl, rfl⟩ rfl rfl rfl rfl rfl (by kernel_rfl) Try.func3 (by kernel_rfl)
    (of_decide_eq_true (by kernel_rfl)) (by unfold Func.isWrapper; first | (rw [if_pos (by decide +kernel)]; kernel_rfl) | (rw [if_neg (by decide +kernel)]; exact ⟨rfl, rfl⟩))
    (fun os started H enc _ => lifted os started H enc)

theorem proved : Rows.DirPlaysSaid :=
  over
#print axioms proved


end Go.Proofs.Ytkkkgikmeiocaaa.dirPlays
