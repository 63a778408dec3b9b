/-
  All bytes of a segment are its words', one behind the other. The statement SegAll, for every size and every list of pairs; no condition.
-/
import Derived.Test.YtdmogmdhdhgmeaaSegO
namespace Go.Proofs.Ytdmogmdhdhgmeaa.segAll
open Go.ChangeShapes Go.WideShapes Go.ChangeAt Go.RowKit
set_option linter.unusedVariables false
set_option linter.unusedSimpArgs false

set_option maxHeartbeats 1000000 in
theorem walk_core (N : Nat) (hN : N < 18446744073709551616) {la : Option Addr} {n c : Nat} {X V : Nat → Nat} (w : World) (hp : PutsAt w la n X V) (hn : n ≤ maxLen) :
    Calls Try.prog 3 #[.int .u64 N, .slice la n c] w fun e w' => e = .returned (.bool true) ∧ Below w.heap.size w w' := by
  by_cases h800 : 800 < (N : Int)
  · go_enter Try.func3, Try.ntmps3
    go_wp2_with (first | (go_at_call 8; ((with_reducible refine (awake_any _).mono ?_); rintro e w1 ⟨rfl, hg1⟩)))
    go_ret
    exact ⟨rfl, grown_below hg1⟩
  have hmay := fun w => rmay_any N hN w
  by_cases hm : may N
  · rw [decide_eq_true hm] at hmay
    obtain ⟨m, rfl, h1, h2⟩ := may_eight hm
    obtain ⟨ws, hl, hlt, hne, hf⟩ := filled_ws (c := c) hp hn m h1 h2
    have cb : ∀ (w : World) (B D : Nat), IsSeg w B D ws → Calls Try.prog 11 #[.pointer (some ⟨B, 0, none⟩), .int .u64 0, .int .u64 (8 * m : Nat)] w fun e w' => e = .returned (.tuple #[.slice (some ⟨w.heap.size, 0, none⟩) (8 * m) (8 * m), .int .i64 0]) ∧ Told w (fun j => byteN ws (0 + j)) (8 * m) w' :=
      fun w B D h => bytes_yes h 0 (8 * m) ⟨hne, by omega, by omega⟩
    have cr : ∀ (w : World) (v : Value) (b : Nat), OwnW w b v ws → Calls Try.prog 12 #[v, .int .u64 0, .int .u64 (8 * m : Nat)] w fun e w' => ∃ v', e = .returned (.tuple #[v', .int .i64 0]) ∧ OutRel w (fun j => byteN ws (0 + j)) (8 * m) v' w' :=
      fun w v b h => rbytes_yes h (by omega) hlt 0 (8 * m) ⟨hne, by omega, by omega⟩
    have cn1 : ∀ (w : World) (B D : Nat), IsSeg w B D ws → Calls Try.prog 11 #[.pointer (some ⟨B, 0, none⟩), .int .u64 0, .int .u64 (((8 * m : Nat) : Int) + 1)] w fun e w' => e = .returned (.tuple #[.slice none 0 0, .int .i64 1]) ∧ w = w' :=
      fun w B D h => bytes_no (.inr ⟨B, D, rfl, h⟩) 0 (8 * m + 1) (by decide) (by omega) (fun hw => by have := hw.2.2; omega)
    have cn2 : ∀ (w : World) (B D : Nat), IsSeg w B D ws → Calls Try.prog 11 #[.pointer (some ⟨B, 0, none⟩), .int .u64 1, .int .u64 (8 * m : Nat)] w fun e w' => e = .returned (.tuple #[.slice none 0 0, .int .i64 1]) ∧ w = w' :=
      fun w B D h => bytes_no (.inr ⟨B, D, rfl, h⟩) 1 (8 * m) (by decide) (by omega) (fun hw => by have := hw.2.2; omega)
    obtain ⟨L, hL⟩ : ∃ L, 8 * m = L := ⟨_, rfl⟩
    rw [hL] at hmay hf cb cr cn1 cn2 h800 ⊢
    have hLl : L ≤ 1048576 := by omega
    clear hL hm hN
    go_enter Try.func3, Try.ntmps3
    go_wp2_with (first | (go_at_call 8; ((with_reducible refine (awake_any _).mono ?_); rintro e w1 ⟨rfl, hg1⟩)) | (go_at_call 9; ((with_reducible refine (hmay _).mono ?_); rintro e w9 ⟨rfl, rfl⟩)) | (go_at_call 10; ((with_reducible refine (hf _ hg1).mono ?_); rintro e w2 ⟨v, wv, rfl, R⟩; obtain ⟨B, D, hv, _, _, hs2⟩ := R.seg.yes hne; subst hv; have ho2 := R.own)) | (go_at_call 11; ((with_reducible refine (cb _ _ _ hs2).mono ?_); rintro e w3 ⟨rfl, ht⟩; have hs3 := hs2.later ht.grown; have ho3 := ho2.later ht.grown)) | (go_at_call 12; ((with_reducible refine (cr _ _ _ ho3).mono ?_); rintro e w4 ⟨v', rfl, R4⟩; have hs4 := hs3.later R4.grown; have hstr1 := (ht.bytes.later R4.grown).str; have hstr2 := R4.bytes.str)) | (go_at_call 11; ((with_reducible refine (cn1 _ _ _ hs4).mono ?_); rintro e w5 ⟨rfl, rfl⟩)) | (go_at_call 11; ((with_reducible refine (cn2 _ _ _ hs4).mono ?_); rintro e w6 ⟨rfl, rfl⟩)))
    go_ret
    exact ⟨rfl, grown_below (grown_trans (grown_trans (grown_trans hg1 R.grown) ht.grown) R4.grown)⟩
  · rw [decide_eq_false hm] at hmay
    go_enter Try.func3, Try.ntmps3
    go_wp2_with (first | (go_at_call 8; ((with_reducible refine (awake_any _).mono ?_); rintro e w1 ⟨rfl, hg1⟩)) | (go_at_call 9; ((with_reducible refine (hmay _).mono ?_); rintro e w9 ⟨rfl, rfl⟩)))
    go_ret
    exact ⟨rfl, grown_below hg1⟩
theorem walk (a0 : Int) (w0 : (Lit.int .u64 a0).wf = true) {la : Option Addr} {n c : Nat} {X V : Nat → Nat} (hn : n ≤ maxLen) {w : World} (hp : PutsAt w la n X V) (w' : World) (hw : w' = w) :
    Calls Try.prog 3 #[.int .u64 a0, .slice la n c] w' fun e w'' => e = .returned (.bool true) ∧ Below w'.heap.size w' w'' := by
  subst hw
  have b0 := bounds_u64 w0
  obtain ⟨m, rfl⟩ := Int.eq_ofNat_of_zero_le b0.1
  exact walk_core m (by omega) _ hp hn

theorem laidOut : laidOutB Try.prog = true := by kernel_rfl
/-! ### The row's step: the guide's frame -/
theorem own : ownKnob Try.prog.godebug = none := by kernel_rfl
set_option maxRecDepth 100000 in
theorem lifted (os : Os) (started : os.Started) (H : Type) (enc : TypeId × Value → H) :
    ReturnsInHanded {} Try.checked os 3 .any (Rows.segAllSpec.pre6 enc Try.prog Try.f3 Rows.segAllRow.domain false) (Rows.segAllSpec.post enc Try.prog Try.f3 false true false false) := by
  refine returnsInHanded_of_change (C := Try.checked) own started (by kernel_rfl) Try.func3
    (ChangeSpec.witness6 (enc := enc) (C := Try.checked) false ⟨#[], #[.int .u64 0, .slice none 0 0], []⟩ 8 (by kernel_rfl) (by kernel_rfl) (by kernel_rfl) (by kernel_rfl)) ?_
  intro W base args ds gs before hval0 hW hcnd _
  have hval : ∀ (j : Nat) t v, Try.f3.params[j]? = some t → args[j]? = some v → Value.okWide Try.prog W .any base t v := hval0
  have hW' := hW
  obtain ⟨p, q, hA0, hV, rfl, hfz, hnd⟩ := hW
  have hA : DataW.TrodAll enc Try.prog W 0 (fun _ => true) true Try.f3.params.toList args.toList ds p := hA0
  rw [Try.params3] at hA hval
  obtain ⟨v0, vs0, d0, ds0, p0, q0, hargs, rfl, rfl, h0, r0⟩ := trodAll_cons hA
  obtain ⟨v1, vs1, d1, ds1, p1, q1, rfl, rfl, rfl, h1, r1⟩ := trodAll_cons r0
  obtain ⟨rfl, rfl, rfl⟩ := trodAll_nil r1
  obtain rfl : args = #[v0, v1] := by cases args; simp_all
  obtain ⟨rfl, rfl⟩ := trodVars_none hV
  obtain ⟨a0, rfl, rfl, rfl, w0⟩ := open_int Try.underlying22 (hval 0 22 v0 rfl rfl) h0
  have lt1 : ∀ x ∈ p1, x.block < W.heap.size := by obtain ⟨m, hm⟩ := h1; exact DataW.trod_lt m _ _ _ hm
  obtain ⟨la1, n1, c1, X1, V1, rfl, hn1, hp1⟩ := open_puts (hval 1 23 v1 rfl rfl) h1
  clear hA0 hval0
  refine (walk a0 w0 hn1 hp1 W rfl).mono fun e W' ⟨he, bel⟩ => ?_
  subst he
  exact ⟨_, rfl, _, _, _, [], _, [], hW', trodAll_mk1 (shut_bool Try.underlying4 _), (trodAll_cons_mk (shut_int Try.underlying22 w0) (trodAll_cons_mk (Below.trod laidOut (by kernel_rfl) (of_decide_eq_true (by kernel_rfl)) h1 bel lt1) trodAll_mk0)), rfl, bel.frame _, fun h => by cases h⟩

theorem over : Rows.segAllRow.holds Try.pinned (OpenSpec.ofChange Rows.segAllSpec) :=
  OpenClaim.holds_of_wide 3 Try.f3 rfl rfl rfl rfl rfl rfl rfl ⟨rfl, rfl, rfl, rfl, rfl⟩ rfl rfl rfl rfl rfl (by kernel_rfl) Try.func3 (by kernel_rfl)
    (of_decide_eq_true (by kernel_rfl)) (by unfold Func.isWrapper; first | (rw [if_pos (by decide +kernel)]; kernel_rfl) | (rw [if_neg (by decide +kernel)]; exact ⟨rfl, rfl⟩))
    (fun os started H enc _ => lifted os started H enc)

theorem proved : Rows.SegAllSaid :=
  over
#print axioms proved

end Go.Proofs.Ytdmogmdhdhgmeaa.segAll
