/-
  What is no name is neither put, found, nor dropped; nobody's segment has none. The statement DirNobody; no condition.
-/
import Derived.Test.YtkkkgikmeiocaaaLDik
import Derived.Test.YtkkkgikmeiocaaaRows
import Derived.Lib.SmallJoins
import Derived.ProofKit
import Derived.OpenShut
import Derived.Carry
import Derived.ChangeOld
import Derived.Deep.RegionHeld3
namespace Go.Proofs.Ytkkkgikmeiocaaa.dirNobody
open Go.ChangeShapes Go.WideShapes Go.ChangeAt Go.RowKit
open Go.ChangeMaps (open_string shut_string)
set_option linter.unusedVariables false
set_option linter.unusedSimpArgs false
set_option maxRecDepth 100000

section
variable {f : Nat → Nat} {s : ByteArray} {p : Nat}
theorem no_st (h : ¬ nmOk s) : stN f s = none := if_neg h
theorem no_put (h : ¬ nmOk s) : putN f s p = 8 := by
  have hr : roomN f s = 8 := if_pos h
  unfold putN
  rw [hr]
  rfl
theorem no_keep (h : putN f s p ≠ 0) : putW f s p = f := if_neg h
theorem no_drop (h : ¬ nmOk s) : drpF f s = f := by unfold drpF; rw [no_st h]
theorem no_named (h : p < 2) : ∀ n k, nmdF f p n k = false
  | 0, _ => rfl
  | n + 1, k => by
    show (if 1 < p ∧ f (dAt k + 16) = p then true else nmdF f p n (k + 1)) = false
    rw [if_neg (by omega)]
    exact no_named h n (k + 1)
theorem low_put (h : p < 2) : putN f s p = if roomN f s = 0 then 1 else roomN f s := by
  unfold putN
  by_cases e : roomN f s = 0
  · rw [if_neg (not_not_intro e), if_pos h, if_pos e]
  · rw [if_pos e, if_neg e]
theorem room_in : roomN f s = 0 ∨ 7 ≤ roomN f s ∧ roomN f s ≤ 9 := by
  unfold roomN
  repeat' split
  all_goals omega
end
set_option maxHeartbeats 8000000 in
theorem core {w : World} {la : Option Addr} {n c o : Nat} {X : Nat → Bool} {S : Nat → ByteArray} {O : Nat → Nat} {s : ByteArray} (hp : NamesAt w la n X S O) (hn : n ≤ maxLen) (hs : s.size ≤ maxLen) (ho : o < 18446744073709551616) :
    Calls Try.prog 7 #[.slice la n c, .string s, .int .u64 (o : Nat)] w fun e w' => e = .returned (.bool true) ∧ w.grownBy w' none := by
  by_cases h100 : 100 < s.size
  · have hi : (100 : Int) < (s.size : Int) := by omega
    clear h100 hp
    go_enter Try.func7, Try.ntmps7
    go_wp2_with (first | (go_at_call 8; ((with_reducible refine (awake13 _).mono ?_); rintro e w1 ⟨rfl, hg1⟩)))
    go_ret
    exact ⟨rfl, hg1⟩
  · have hi : ¬ (100 : Int) < (s.size : Int) := by omega
    obtain ⟨ws, f, hok, hpl⟩ := played13_nil (c := c) hp hn
    have h116 : s.size + 16 ≤ maxLen := by unfold maxLen; omega
    obtain ⟨t, et⟩ : ∃ t, s ++ (⟨#[48, 49, 50, 51, 52, 53, 54, 55, 56, 57, 97, 98, 99, 100, 101, 102]⟩ : ByteArray) = t := ⟨_, rfl⟩
    have ht : t.size = s.size + 16 := by rw [← et, ByteArray.size_append]; rfl
    have htn : ¬ nmOk t := by unfold nmOk; omega
    have hts : t.size ≤ maxLen := by omega
    have hen : ¬ nmOk (⟨#[]⟩ : ByteArray) := by unfold nmOk; rintro ⟨h1, h2⟩; exact absurd h1 (by decide)
    obtain ⟨q, eq⟩ : ∃ q, o % 2 = q := ⟨_, rfl⟩
    have hq : q < 2 := by omega
    obtain ⟨r, er⟩ : ∃ r, roomN f s = r := ⟨_, rfl⟩
    have hpq : putN f s q = if r = 0 then 1 else r := by rw [← er]; exact low_put hq
    have hpw : putW f s q = f := no_keep (by rw [hpq]; split <;> omega)
    have hr : r = 0 ∨ 7 ≤ r ∧ r ≤ 9 := by rw [← er]; exact room_in
    have hmod : ((o : Nat) : Int) % 2 = ((q : Nat) : Int) := by omega
    have htm : ((o : Nat) : Int).tmod 2 = ((q : Nat) : Int) := by rw [Int.tmod_eq_emod_of_nonneg (by omega)]; exact hmod
    have hqw : IntKind.u64.wrap ((q : Nat) : Int) = ((q : Nat) : Int) := by rw [IntKind.wrap_u64]; omega
    have C1 := Lib.hid (show ∀ (w V : World) (T : Nat) (R : Option Nat), DF w V T R ws f → Calls Try.prog 19 #[.pointer (some ⟨T, 0, none⟩), .string t, .int .u64 (o : Nat)] V fun e w' => e = .returned (.int .i64 8) ∧ ∃ R', DF w w' T R' ws f ∧ Keep V R w' R' from fun w V T R h => by
      have := dput_c h hts ho
      rw [no_put htn, no_keep (by rw [no_put htn]; decide)] at this
      exact this)
    have C2 := Lib.hid (show ∀ (w V : World) (T : Nat) (R : Option Nat), DF w V T R ws f → Calls Try.prog 10 #[.pointer (some ⟨T, 0, none⟩), .string t] V fun e w' => e = .returned (.tuple #[.int .u64 0, .bool false]) ∧ V.grownBy w' none from fun w V T R h => by
      have := dfind_c h hts
      unfold fndN at this
      rw [no_st htn] at this
      exact this)
    have C3 := Lib.hid (show ∀ (w V : World) (T : Nat) (R : Option Nat), DF w V T R ws f → Calls Try.prog 20 #[.pointer (some ⟨T, 0, none⟩), .string t] V fun e w' => e = .returned (.bool false) ∧ ∃ R', DF w w' T R' ws f ∧ Keep V R w' R' from fun w V T R h => by
      have := ddrop_c h hts
      rw [no_st htn, no_drop htn] at this
      exact this)
    have C4 := Lib.hid (show ∀ (w V : World) (T : Nat) (R : Option Nat), DF w V T R ws f → Calls Try.prog 19 #[.pointer (some ⟨T, 0, none⟩), .string ⟨#[]⟩, .int .u64 (o : Nat)] V fun e w' => e = .returned (.int .i64 8) ∧ ∃ R', DF w w' T R' ws f ∧ Keep V R w' R' from fun w V T R h => by
      have := dput_c h (s := ⟨#[]⟩) (by decide) ho
      rw [no_put hen, no_keep (by rw [no_put hen]; decide)] at this
      exact this)
    have C8 := Lib.hid (show ∀ (w V : World) (T : Nat) (R : Option Nat), DF w V T R ws f → Calls Try.prog 17 #[.pointer (some ⟨T, 0, none⟩), .int .u64 (q : Nat)] V fun e w' => e = .returned (.bool false) ∧ V.grownBy w' none from fun w V T R h => by
      have := dnamed_c h (p := q) (by omega)
      rw [no_named hq] at this
      exact this)
    have C5 := Lib.hid (fun (V : World) => dfind_nil V s hs)
    have HPL := Lib.hid hpl
    clear hpl hok hp hn h116 h100
    rcases hr with hr0 | ⟨hr1, hr2⟩
    · subst hr0
      have C6 := Lib.hid (show ∀ (w V : World) (T : Nat) (R : Option Nat), DF w V T R ws f → Calls Try.prog 12 #[.pointer (some ⟨T, 0, none⟩), .string s] V fun e w' => e = .returned (.int .i64 0) ∧ V.grownBy w' none from fun w V T R h => by
        have := droom_c h hs
        rw [er] at this
        exact this)
      have C7 := Lib.hid (show ∀ (w V : World) (T : Nat) (R : Option Nat), DF w V T R ws f → Calls Try.prog 19 #[.pointer (some ⟨T, 0, none⟩), .string s, .int .u64 (q : Nat)] V fun e w' => e = .returned (.int .i64 1) ∧ ∃ R', DF w w' T R' ws f ∧ Keep V R w' R' from fun w V T R h => by
        have := dput_c h hs (p := q) (by omega)
        rw [hpq, hpw, if_pos rfl] at this
        exact this)
      clear ht hts htn hen eq hq er hpq hpw hs ho
      go_enter Try.func7, Try.ntmps7
      go_wp2_with (first
        | (go_at_call 8; go_must ((with_reducible refine (awake13 _).mono ?_); rintro e w1 ⟨rfl, hg1⟩; skip))
        | (go_at_call 9; go_must ((with_reducible refine (HPL.out _ hg1).mono ?_); rintro e w2 ⟨T, R, wv, pv, rfl, hD, hX, hne⟩; obtain ⟨⟨wa, wn, wc, rfl⟩, pa, pn, pc, rfl⟩ := hX.form; have ga := World.grownBy_alloc w2 (.cells #[.slice wa wn wc, .slice pa pn pc] 28) none; have D2 := hD.later ga; have c1 := C1.out _ _ _ _ D2))
        | (go_at_call 19; ((with_reducible refine c1.mono ?_); rintro e w3 ⟨rfl, R3, D3, k3⟩; have c2 := C2.out _ _ _ _ D3))
        | (go_at_call 10; ((with_reducible refine c2.mono ?_); rintro e w4 ⟨rfl, hg4⟩; have D4 := D3.later hg4; have c3 := C3.out _ _ _ _ D4))
        | (go_at_call 20; ((with_reducible refine c3.mono ?_); rintro e w5 ⟨rfl, R5, D5, k5⟩; have c4 := C4.out _ _ _ _ D5))
        | (go_at_call 19; ((with_reducible refine c4.mono ?_); rintro e w6 ⟨rfl, R6, D6, k6⟩; have c5 := C5.out w6))
        | (go_at_call 10; ((with_reducible refine c5.mono ?_); rintro e w7 ⟨rfl, hg7⟩; have D7 := D6.later hg7; have c6 := C6.out _ _ _ _ D7))
        | (go_at_call 12; ((with_reducible refine c6.mono ?_); rintro e w8 ⟨rfl, hg8⟩; have D8 := D7.later hg8; have c7 := C7.out _ _ _ _ D8))
        | (go_at_call 19; ((with_reducible refine c7.mono ?_); rintro e w9 ⟨rfl, R9, D9, k9⟩; have c8 := C8.out _ _ _ _ D9))
        | (go_at_call 17; ((with_reducible refine c8.mono ?_); rintro e w10 ⟨rfl, hg10⟩; have D10 := D9.later hg10)))
      go_ret
      exact ⟨rfl, grown_trans hg1 D10.since⟩
    · have hr0 : ¬ r = 0 := by omega
      have hb0 : ((r : Int) == 0) = false := by simpa using hr0
      have hb1 : ((r : Int) == 1) = false := by simp; omega
      have hbr : ((r : Int) == (r : Int)) = true := by simp
      have C6 := Lib.hid (show ∀ (w V : World) (T : Nat) (R : Option Nat), DF w V T R ws f → Calls Try.prog 12 #[.pointer (some ⟨T, 0, none⟩), .string s] V fun e w' => e = .returned (.int .i64 (r : Nat)) ∧ V.grownBy w' none from fun w V T R h => by
        have := droom_c h hs
        rw [er] at this
        exact this)
      have C7 := Lib.hid (show ∀ (w V : World) (T : Nat) (R : Option Nat), DF w V T R ws f → Calls Try.prog 19 #[.pointer (some ⟨T, 0, none⟩), .string s, .int .u64 (q : Nat)] V fun e w' => e = .returned (.int .i64 (r : Nat)) ∧ ∃ R', DF w w' T R' ws f ∧ Keep V R w' R' from fun w V T R h => by
        have := dput_c h hs (p := q) (by omega)
        rw [hpq, hpw, if_neg hr0] at this
        exact this)
      clear ht hts htn hen eq hq er hpq hpw hs ho
      go_enter Try.func7, Try.ntmps7
      go_wp2_with (first
        | (go_at_call 8; go_must ((with_reducible refine (awake13 _).mono ?_); rintro e w1 ⟨rfl, hg1⟩; skip))
        | (go_at_call 9; go_must ((with_reducible refine (HPL.out _ hg1).mono ?_); rintro e w2 ⟨T, R, wv, pv, rfl, hD, hX, hne⟩; obtain ⟨⟨wa, wn, wc, rfl⟩, pa, pn, pc, rfl⟩ := hX.form; have ga := World.grownBy_alloc w2 (.cells #[.slice wa wn wc, .slice pa pn pc] 28) none; have D2 := hD.later ga; have c1 := C1.out _ _ _ _ D2))
        | (go_at_call 19; ((with_reducible refine c1.mono ?_); rintro e w3 ⟨rfl, R3, D3, k3⟩; have c2 := C2.out _ _ _ _ D3))
        | (go_at_call 10; ((with_reducible refine c2.mono ?_); rintro e w4 ⟨rfl, hg4⟩; have D4 := D3.later hg4; have c3 := C3.out _ _ _ _ D4))
        | (go_at_call 20; ((with_reducible refine c3.mono ?_); rintro e w5 ⟨rfl, R5, D5, k5⟩; have c4 := C4.out _ _ _ _ D5))
        | (go_at_call 19; ((with_reducible refine c4.mono ?_); rintro e w6 ⟨rfl, R6, D6, k6⟩; have c5 := C5.out w6))
        | (go_at_call 10; ((with_reducible refine c5.mono ?_); rintro e w7 ⟨rfl, hg7⟩; have D7 := D6.later hg7; have c6 := C6.out _ _ _ _ D7))
        | (go_at_call 12; ((with_reducible refine c6.mono ?_); rintro e w8 ⟨rfl, hg8⟩; have D8 := D7.later hg8; have c7 := C7.out _ _ _ _ D8))
        | (go_at_call 19; ((with_reducible refine c7.mono ?_); rintro e w9 ⟨rfl, R9, D9, k9⟩; have c8 := C8.out _ _ _ _ D9))
        | (go_at_call 17; ((with_reducible refine c8.mono ?_); rintro e w10 ⟨rfl, hg10⟩; have D10 := D9.later hg10)))
      go_ret
      exact ⟨rfl, grown_trans hg1 D10.since⟩
theorem walk {w : World} {la : Option Addr} {n c : Nat} {X : Nat → Bool} {S : Nat → ByteArray} {O : Nat → Nat} (_ : n ≤ c) (hn : n ≤ maxLen) (hp : NamesAt w la n X S O) (s : ByteArray) (hs : s.size ≤ maxLen) (o : Int) (wo : (Lit.int .u64 o).wf = true) :
    Calls Try.prog 7 #[.slice la n c, .string s, .int .u64 o] w fun e w' => e = .returned (.bool true) ∧ Below w.heap.size w w' := by
  have b2 := bounds_u64 wo
  obtain ⟨o', rfl⟩ := Int.eq_ofNat_of_zero_le b2.1
  exact (core hp hn hs (by omega)).mono fun e w' ⟨h1, h2⟩ => ⟨h1, grown_below h2⟩
theorem laidOut : laidOutB Try.prog = true := by kernel_rfl
/-! ### The row's step: the guide's frame -/
theorem own : ownKnob Try.prog.godebug = none := by kernel_rfl
set_option maxRecDepth 100000 in
theorem lifted (os : Os) (started : os.Started) (H : Type) (enc : TypeId × Value → H) :
    ReturnsInHanded {} Try.checked os 7 .any (Rows.dirNobodySpec.pre6 enc Try.prog Try.f7 Rows.dirNobodyRow.domain false) (Rows.dirNobodySpec.post enc Try.prog Try.f7 false true false false) := by
  refine returnsInHanded_of_change (C := Try.checked) own started (by kernel_rfl) Try.func7
    (ChangeSpec.witness6 (enc := enc) (C := Try.checked) false ⟨#[], #[.slice none 0 0, .string ByteArray.empty, .int .u64 0], []⟩ 8 (by kernel_rfl) (by kernel_rfl) (by kernel_rfl) (by kernel_rfl)) ?_
  intro W base args ds gs before hval0 hW hcnd _
  have hval : ∀ (j : Nat) t v, Try.f7.params[j]? = some t → args[j]? = some v → Value.okWide Try.prog W .any base t v := hval0
  have hW' := hW
  obtain ⟨p, q, hA0, hV, rfl, hfz, hnd⟩ := hW
  have hA : DataW.TrodAll enc Try.prog W 0 (fun _ => true) true Try.f7.params.toList args.toList ds p := hA0
  rw [Try.params7] at hA hval
  obtain ⟨v0, vs0, d0, ds0, p0, q0, hargs, rfl, rfl, h0, r0⟩ := trodAll_cons hA
  obtain ⟨v1, vs1, d1, ds1, p1, q1, rfl, rfl, rfl, h1, r1⟩ := trodAll_cons r0
  obtain ⟨v2, vs2, d2, ds2, p2, q2, rfl, rfl, rfl, h2, r2⟩ := trodAll_cons r1
  obtain ⟨rfl, rfl, rfl⟩ := trodAll_nil r2
  obtain rfl : args = #[v0, v1, v2] := by cases args; simp_all
  obtain ⟨rfl, rfl⟩ := trodVars_none hV
  have lt0 : ∀ x ∈ p0, x.block < W.heap.size := by obtain ⟨m, hm⟩ := h0; exact DataW.trod_lt m _ _ _ hm
  obtain ⟨la0, n0, c0, X0, S0, O0, rfl, hc0, hn0, hp0⟩ := open_names (hval 0 23 v0 rfl rfl) h0
  obtain ⟨a1, rfl, rfl, rfl, w1⟩ := open_string Try.underlying9 (hval 1 9 v1 rfl rfl) h1
  obtain ⟨a2, rfl, rfl, rfl, w2⟩ := open_int Try.underlying31 (hval 2 31 v2 rfl rfl) h2
  clear hA0 hval0
  refine (walk hc0 hn0 hp0 a1 w1 a2 w2).mono fun e W' ⟨he, bel⟩ => ?_
  subst he
  exact ⟨_, rfl, _, _, _, [], _, [], hW', trodAll_mk1 (shut_bool Try.underlying4 _), (trodAll_cons_mk (Below.trod laidOut (by kernel_rfl) (of_decide_eq_true (by kernel_rfl)) h0 bel lt0) (trodAll_cons_mk (shut_string Try.underlying9 w1) (trodAll_cons_mk (shut_int Try.underlying31 w2) trodAll_mk0))), rfl, bel.frame _, fun h => by cases h⟩

theorem over : Rows.dirNobodyRow.holds Try.pinned (OpenSpec.ofChange Rows.dirNobodySpec) :=
  OpenClaim.holds_of_wide 7 Try.f7 rfl rfl rfl rfl rfl rfl rfl ⟨rfl, rfl, rfl, rfl, rfl⟩ rfl rfl rfl rfl rfl (by kernel_rfl) Try.func7 (by kernel_rfl)
    (of_decide_eq_true (by kernel_rfl)) (by unfold Func.isWrapper; first | (rw [if_pos (by decide +kernel)]; kernel_rfl) | (rw [if_neg (by decide +kernel)]; exact ⟨rfl, rfl⟩))
    (fun os started H enc _ => lifted os started H enc)

theorem proved : Rows.DirNobodySaid :=
  over
#print axioms proved


end Go.Proofs.Ytkkkgikmeiocaaa.dirNobody
