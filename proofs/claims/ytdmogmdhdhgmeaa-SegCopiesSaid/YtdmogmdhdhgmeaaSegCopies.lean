/-
  A copy is the same, and shares nothing. The statement SegCopies, for every size, every list of pairs, and every pair; no condition.
-/
import Derived.Test.YtdmogmdhdhgmeaaSegP
namespace Go.Proofs.Ytdmogmdhdhgmeaa.segCopies
open Go.ChangeShapes Go.WideShapes Go.ChangeAt Go.RowKit
set_option linter.unusedVariables false
set_option linter.unusedSimpArgs false

theorem seg_wrote {w w' : World} {B D base : Nat} {ws : List Nat} (h : IsSeg w B D ws) (hg : w.grownBy w' (some D)) (hb : base ≤ D) : Wrote w base w' :=
  ⟨some D, hg, fun d hd => by injection hd with hd; subst hd; exact ⟨hb, _, _, h.data⟩⟩
set_option maxHeartbeats 1000000 in
theorem walk_up (N : Nat) (hN : N < 18446744073709551616) (la : Option Addr) (n c x y : Nat) (w : World) (hno : 800 < N ∨ ¬ may N) :
    Calls Try.prog 6 #[.int .u64 N, .slice la n c, .agg #[.int .u64 x, .int .u64 y]] w fun e w' => e = .returned (.bool true) ∧ w.grownBy w' none := by
  have hmay := fun w => rmay_any N hN w
  by_cases h800 : 800 < (N : Int)
  · go_enter Try.func6, Try.ntmps6
    go_wp2_with (first | (go_at_call 8; ((with_reducible refine (awake_any _).mono ?_); rintro e w1 ⟨rfl, hg1⟩)))
    go_ret
    exact ⟨rfl, grown_trans (World.grownBy_alloc _ _ _) hg1⟩
  · have hm : ¬ may N := by rcases hno with h | h
                            · omega
                            · exact h
    rw [decide_eq_false hm] at hmay
    go_enter Try.func6, Try.ntmps6
    go_wp2_with (first | (go_at_call 8; ((with_reducible refine (awake_any _).mono ?_); rintro e w1 ⟨rfl, hg1⟩)) | (go_at_call 9; ((with_reducible refine (hmay _).mono ?_); rintro e w9 ⟨rfl, rfl⟩)))
    go_ret
    exact ⟨rfl, grown_trans (World.grownBy_alloc _ _ _) hg1⟩
set_option maxHeartbeats 1000000 in
theorem walk_yes (N : Nat) {la : Option Addr} {n c : Nat} {X V : Nat → Nat} (w : World) (hp : PutsAt w la n X V) (hn : n ≤ maxLen) (h800 : N ≤ 800) (hm : may N) (x y : Nat) (hx : x < 18446744073709551616) (hy : y < 18446744073709551616) :
    Calls Try.prog 6 #[.int .u64 N, .slice la n c, .agg #[.int .u64 x, .int .u64 y]] w fun e w' => e = .returned (.bool true) ∧ w.grownBy w' none := by
  have hmay := fun w => rmay_any N (by omega) w
  rw [decide_eq_true hm] at hmay
  obtain ⟨m, hN, h1, h2⟩ := may_eight hm
  obtain ⟨ws, hl, hlt, hne, hf⟩ := filled_ws (c := c) hp hn m h1 h2
  rw [← hN] at hf
  have hg0 : w.grownBy (w.alloc (.cells #[.int .u64 (x : Nat), .int .u64 (y : Nat)] 38)) none := World.grownBy_alloc _ _ _
  have hp0 := PairAt.made w x y
  have h800' : ¬ 800 < (N : Int) := by omega
  have hNl : 8 * ws.length = N := by omega
  have cst : ∀ (w : World) (B D : Nat), IsSeg w B D ws → Calls Try.prog 14 #[.pointer (some ⟨B, 0, none⟩), .int .u64 x, .int .u64 y] w fun e w' => e = .returned (.int .i64 (errW ws x : Nat)) ∧ w.grownBy w' (some D) ∧ IsSeg w' B D (put ws x y) := fun w B D h => store_any h x y hx hy
  have csz : ∀ (w : World) (B D : Nat), IsSeg w B D ws → Calls Try.prog 19 #[.pointer (some ⟨B, 0, none⟩)] w fun e w' => e = .returned (.int .u64 N) ∧ w = w' := fun w B D h => by
    have := size_any (.inr ⟨B, D, rfl, h⟩)
    rw [hNl] at this
    exact this
  have cdf : ∀ (w : World) (B D B' D' : Nat), IsSeg w B D ws → IsSeg w B' D' ws → Calls Try.prog 16 #[.pointer (some ⟨B, 0, none⟩), .pointer (some ⟨B', 0, none⟩)] w (DiffPost w ws ws) := fun w B D B' D' h h' => diff_any (.inr ⟨B, D, rfl, h⟩) (.inr ⟨B', D', rfl, h'⟩)
  have cb : ∀ (w : World) (B D : Nat), IsSeg w B D ws → Calls Try.prog 11 #[.pointer (some ⟨B, 0, none⟩), .int .u64 0, .int .u64 N] w fun e w' => e = .returned (.tuple #[.slice (some ⟨w.heap.size, 0, none⟩) N N, .int .i64 0]) ∧ Told w (fun j => byteN ws (0 + j)) N w' :=
    fun w B D h => bytes_yes h 0 N ⟨hne, by omega, by omega⟩
  have cr : ∀ (w : World) (v : Value) (b : Nat), OwnW w b v ws → Calls Try.prog 12 #[v, .int .u64 0, .int .u64 N] w fun e w' => ∃ v', e = .returned (.tuple #[v', .int .i64 0]) ∧ OutRel w (fun j => byteN ws (0 + j)) N v' w' :=
    fun w v b h => rbytes_yes h (by omega) hlt 0 N ⟨hne, by omega, by omega⟩
  have hd := diff_same ws (max ws.length ws.length)
  have HD := Lib.hid hd
  clear hN hm h800 hd hl hNl
  go_enter Try.func6, Try.ntmps6
  go_wp2_with (first | (go_at_call 8; ((with_reducible refine (awake_any _).mono ?_); rintro e w1 ⟨rfl, hg1⟩; have hp1 := hp0.later hg1)) | (go_at_call 9; ((with_reducible refine (hmay _).mono ?_); rintro e w9 ⟨rfl, rfl⟩)) | (go_at_call 10; ((with_reducible refine (hf _ (grown_trans hg0 hg1)).mono ?_); rintro e w2 ⟨v, wv, rfl, R⟩; obtain ⟨B, D, hv, _, _, hs2⟩ := R.seg.yes hne; subst hv; have hp2 := hp1.later R.grown)) | (go_at_call 13; ((with_reducible refine (copy_yes hs2).mono ?_); rintro e w3 ⟨rfl, hg3, ht3⟩; have hp3 := hp2.later hg3; have hs3 := hs2.later hg3)) | (go_at_call 16; ((with_reducible refine (cdf _ _ _ _ _ hs3 ht3).mono ?_); rintro e w4 ⟨v4, rfl, R4⟩; have R5 := R4.words; rw [HD.out] at R5; obtain ⟨a5, c5, hv5⟩ := OwnW.slice R5; subst hv5; have hg4 := grown_trans hg3 R4.grown; have hp4 := hp3.later R4.grown; have hs4 := hs3.later R4.grown; have ht4 := ht3.later R4.grown; have k0 := hp4.c0; have k1 := hp4.c1)) | (go_at_call 19; ((with_reducible refine (csz _ _ _ ht4).mono ?_); rintro e w5 ⟨rfl, rfl⟩)) | (go_at_call 14; ((with_reducible refine (cst _ _ _ ht4).mono ?_); rintro e w6 ⟨rfl, hg6, ht6⟩; have hs6 := hs4.kept hg6 (by have := hs2.ltB; simp; omega) (by have := hs2.ltD; simp; omega); have ho6 := (seg_wrote ht4 hg6 (Nat.le_refl _)).own (R.own.later hg4))) | (go_at_call 11; ((with_reducible refine (cb _ _ _ hs6).mono ?_); rintro e w7 ⟨rfl, ht⟩; have ho7 := ho6.later ht.grown)) | (go_at_call 12; ((with_reducible refine (cr _ _ _ ho7).mono ?_); rintro e w8 ⟨v', rfl, R8⟩; have hstr1 := (ht.bytes.later R8.grown).str; have hstr2 := R8.bytes.str)))
  go_ret
  exact ⟨ret_bool' rfl, grown_trans (grown_trans (grown_step (grown_trans (grown_trans (grown_trans hg0 hg1) R.grown) hg4) hg6 (fun i hi => .inl (by injection hi; have := hp2.lt; omega))) ht.grown) R8.grown⟩
theorem walk (a0 : Int) (w0 : (Lit.int .u64 a0).wf = true) {la : Option Addr} {n c : Nat} {X V : Nat → Nat} (hn : n ≤ maxLen) {w : World} (hp : PutsAt w la n X V) (x y : Nat) (hx : x < 18446744073709551616) (hy : y < 18446744073709551616) :
    Calls Try.prog 6 #[.int .u64 a0, .slice la n c, .agg #[.int .u64 x, .int .u64 y]] w fun e w' => e = .returned (.bool true) ∧ Below w.heap.size w w' := by
  have b0 := bounds_u64 w0
  obtain ⟨m, rfl⟩ := Int.eq_ofNat_of_zero_le b0.1
  by_cases hc : m ≤ 800 ∧ may m
  · exact (walk_yes m w hp hn hc.1 hc.2 x y hx hy).mono fun e w' ⟨h1, h2⟩ => ⟨h1, grown_below h2⟩
  · have hno : 800 < m ∨ ¬ may m := by
      by_cases h : m ≤ 800
      · exact .inr fun h' => hc ⟨h, h'⟩
      · exact .inl (by omega)
    exact (walk_up m (by omega) la n c x y w hno).mono fun e w' ⟨h1, h2⟩ => ⟨h1, grown_below h2⟩

theorem laidOut : laidOutB Try.prog = true := by kernel_rfl
/-! ### The row's step: the guide's frame -/
theorem own : ownKnob Try.prog.godebug = none := by kernel_rfl
set_option maxRecDepth 100000 in
theorem lifted (os : Os) (started : os.Started) (H : Type) (enc : TypeId × Value → H) :
    ReturnsInHanded {} Try.checked os 6 .any (Rows.segCopiesSpec.pre6 enc Try.prog Try.f6 Rows.segCopiesRow.domain false) (Rows.segCopiesSpec.post enc Try.prog Try.f6 false true false false) := by
  refine returnsInHanded_of_change (C := Try.checked) own started (by kernel_rfl) Try.func6
    (ChangeSpec.witness6 (enc := enc) (C := Try.checked) false ⟨#[], #[.int .u64 0, .slice none 0 0, .agg #[.int .u64 0, .int .u64 0]], []⟩ 8 (by kernel_rfl) (by kernel_rfl) (by kernel_rfl) (by kernel_rfl)) ?_
  intro W base args ds gs before hval0 hW hcnd _
  have hval : ∀ (j : Nat) t v, Try.f6.params[j]? = some t → args[j]? = some v → Value.okWide Try.prog W .any base t v := hval0
  have hW' := hW
  obtain ⟨p, q, hA0, hV, rfl, hfz, hnd⟩ := hW
  have hA : DataW.TrodAll enc Try.prog W 0 (fun _ => true) true Try.f6.params.toList args.toList ds p := hA0
  rw [Try.params6] at hA hval
  obtain ⟨v0, vs0, d0, ds0, p0, q0, hargs, rfl, rfl, h0, r0⟩ := trodAll_cons hA
  obtain ⟨v1, vs1, d1, ds1, p1, q1, rfl, rfl, rfl, h1, r1⟩ := trodAll_cons r0
  obtain ⟨v2, vs2, d2, ds2, p2, q2, rfl, rfl, rfl, h2, r2⟩ := trodAll_cons r1
  obtain ⟨rfl, rfl, rfl⟩ := trodAll_nil r2
  obtain rfl : args = #[v0, v1, v2] := by cases args; simp_all
  obtain ⟨rfl, rfl⟩ := trodVars_none hV
  obtain ⟨a0, rfl, rfl, rfl, w0⟩ := open_int Try.underlying22 (hval 0 22 v0 rfl rfl) h0
  have lt1 : ∀ x ∈ p1, x.block < W.heap.size := by obtain ⟨m, hm⟩ := h1; exact DataW.trod_lt m _ _ _ hm
  obtain ⟨la1, n1, c1, X1, V1, rfl, hn1, hp1⟩ := open_puts (hval 1 23 v1 rfl rfl) h1
  have lt2 : ∀ x ∈ p2, x.block < W.heap.size := by obtain ⟨m, hm⟩ := h2; exact DataW.trod_lt m _ _ _ hm
  obtain ⟨x2, y2, rfl, hx2, hy2⟩ := open_put (hval 2 38 v2 rfl rfl) h2
  clear hA0 hval0
  refine (walk a0 w0 hn1 hp1 x2 y2 hx2 hy2).mono fun e W' ⟨he, bel⟩ => ?_
  subst he
  exact ⟨_, rfl, _, _, _, [], _, [], hW', trodAll_mk1 (shut_bool Try.underlying4 _), (trodAll_cons_mk (shut_int Try.underlying22 w0) (trodAll_cons_mk (Below.trod laidOut (by kernel_rfl) (of_decide_eq_true (by kernel_rfl)) h1 bel lt1) (trodAll_cons_mk (Below.trod laidOut (by kernel_rfl) (of_decide_eq_true (by kernel_rfl)) h2 bel lt2) trodAll_mk0))), rfl, bel.frame _, fun h => by cases h⟩

theorem over : Rows.segCopiesRow.holds Try.pinned (OpenSpec.ofChange Rows.segCopiesSpec) :=
  OpenClaim.holds_of_wide 6 Try.f6 rfl rfl rfl rfl rfl rfl rfl ⟨rfl, rfl, rfl, rfl, rfl⟩ rfl rfl rfl rfl rfl (by kernel_rfl) Try.func6 (by kernel_rfl)
    (of_decide_eq_true (by kernel_rfl)) (by unfold Func.isWrapper; first | (rw [if_pos (by decide +kernel)]; kernel_rfl) | (rw [if_neg (by decide +kernel)]; exact ⟨rfl, rfl⟩))
    (fun os started H enc _ => lifted os started H enc)

theorem proved : Rows.SegCopiesSaid :=
  over
#print axioms proved

end Go.Proofs.Ytdmogmdhdhgmeaa.segCopies
