/-
  What is stored is loaded, and all other words stay; what can't be stored changes nothing. The statement SegStays, for every size, every list of pairs, and every pair; no condition.
-/
import Derived.Test.YtdmogmdhdhgmeaaSegP
import Derived.Deep.QuietTactic
import Derived.BigQuiet
namespace Go.Proofs.Ytdmogmdhdhgmeaa.segStays
open Go.ChangeShapes Go.WideShapes Go.ChangeAt Go.RowKit
set_option linter.unusedVariables false
set_option linter.unusedSimpArgs false

set_option maxHeartbeats 1000000 in
theorem walk_up (N : Nat) (hN : N < 18446744073709551616) (la : Option Addr) (n c x y : Nat) (w : World) (hno : 800 < N ∨ ¬ may N) :
    Calls Try.prog 4 #[.int .u64 N, .slice la n c, .agg #[.int .u64 x, .int .u64 y]] w fun e w' => e = .returned (.bool true) ∧ w.grownBy w' none := by
  have hmay := fun w => rmay_any N hN w
  by_cases h800 : 800 < (N : Int)
  · go_enter Try.func4, Try.ntmps4
    go_wp2_with (first | (go_at_call 8; ((with_reducible refine (awake_any _).mono ?_); rintro e w1 ⟨rfl, hg1⟩)))
    go_ret
    exact ⟨rfl, grown_trans (World.grownBy_alloc _ _ _) hg1⟩
  · have hm : ¬ may N := by rcases hno with h | h
                            · omega
                            · exact h
    rw [decide_eq_false hm] at hmay
    go_enter Try.func4, Try.ntmps4
    go_wp2_with (first | (go_at_call 8; ((with_reducible refine (awake_any _).mono ?_); rintro e w1 ⟨rfl, hg1⟩)) | (go_at_call 9; ((with_reducible refine (hmay _).mono ?_); rintro e w9 ⟨rfl, rfl⟩)))
    go_ret
    exact ⟨rfl, grown_trans (World.grownBy_alloc _ _ _) hg1⟩
set_option maxHeartbeats 1000000 in
theorem walk_yes (N : Nat) {la : Option Addr} {n c : Nat} {X V : Nat → Nat} (w : World) (hp : PutsAt w la n X V) (hn : n ≤ maxLen) (h800 : N ≤ 800) (hm : may N) (x y : Nat) (hx : x < 18446744073709551616) (hy : y < 18446744073709551616) :
    Calls Try.prog 4 #[.int .u64 N, .slice la n c, .agg #[.int .u64 x, .int .u64 y]] w fun e w' => e = .returned (.bool true) ∧ w.grownBy w' none := by
  have hmay := fun w => rmay_any N (by omega) w
  rw [decide_eq_true hm] at hmay
  obtain ⟨m, hN, h1, h2⟩ := may_eight hm
  obtain ⟨ws, hl, hlt, hne, hf⟩ := filled_ws (c := c) hp hn m h1 h2
  rw [← hN] at hf
  have hg0 : w.grownBy (w.alloc (.cells #[.int .u64 (x : Nat), .int .u64 (y : Nat)] 38)) none := World.grownBy_alloc _ _ _
  have hp0 := PairAt.made w x y
  have h800' : ¬ 800 < (N : Int) := by omega
  have cst : ∀ (w : World) (B D : Nat), IsSeg w B D ws → Calls Try.prog 14 #[.pointer (some ⟨B, 0, none⟩), .int .u64 x, .int .u64 y] w fun e w' => e = .returned (.int .i64 (errW ws x : Nat)) ∧ w.grownBy w' (some D) ∧ IsSeg w' B D (put ws x y) := fun w B D h => store_any h x y hx hy
  have cld : ∀ (w : World) (B D : Nat), IsSeg w B D (put ws x y) → Calls Try.prog 15 #[.pointer (some ⟨B, 0, none⟩), .int .u64 x] w fun e w' => e = .returned (.tuple #[.int .u64 (getW (put ws x y) x : Nat), .int .i64 (errW (put ws x y) x : Nat)]) ∧ w.grownBy w' none := fun w B D h => load_any (.inr ⟨B, D, rfl, h⟩) x hx
  have cdf : ∀ (w : World) (B D B' D' : Nat), IsSeg w B D ws → IsSeg w B' D' (put ws x y) → Calls Try.prog 16 #[.pointer (some ⟨B, 0, none⟩), .pointer (some ⟨B', 0, none⟩)] w (DiffPost w ws (put ws x y)) := fun w B D B' D' h h' => diff_any (.inr ⟨B, D, rfl, h⟩) (.inr ⟨B', D', rfl, h'⟩)
  by_cases hs : stands ws x
  · have e1 : errW ws x = 0 := by unfold errW; rw [if_pos hs]
    have e2 : errW (put ws x y) x = 0 := by rw [errW_put, e1]
    have e3 : getW (put ws x y) x = y := by rw [getW_put y x hs, if_pos rfl]
    rw [e1] at cst
    rw [e2, e3] at cld
    have hd := diff_put (y := y) hs (max ws.length (put ws x y).length)
    have hx8 : x < 8 * max ws.length (put ws x y).length := by have := hs.2; omega
    by_cases hxy : y = getW ws x
    · rw [if_neg (fun h => h.2 hxy)] at hd
      have HD := Lib.hid hd
      clear hN hm h800 hd e1 e2 e3 hs hl hxy hx8
      go_enter Try.func4, Try.ntmps4
      go_wp2_with (first | (go_at_call 8; ((with_reducible refine (awake_any _).mono ?_); rintro e w1 ⟨rfl, hg1⟩; have hp1 := hp0.later hg1)) | (go_at_call 9; ((with_reducible refine (hmay _).mono ?_); rintro e w9 ⟨rfl, rfl⟩)) | (go_at_call 10; ((with_reducible refine (hf _ (grown_trans hg0 hg1)).mono ?_); rintro e w2 ⟨v, wv, rfl, R⟩; obtain ⟨B, D, hv, _, _, hs2⟩ := R.seg.yes hne; subst hv; have hp2 := hp1.later R.grown)) | (go_at_call 13; ((with_reducible refine (copy_yes hs2).mono ?_); rintro e w3 ⟨rfl, hg3, ht3⟩; have hp3 := hp2.later hg3; have hs3 := hs2.later hg3; have k0 := hp3.c0; have k1 := hp3.c1)) | (go_at_call 14; ((with_reducible refine (cst _ _ _ ht3).mono ?_); rintro e w4 ⟨rfl, hg4, ht4⟩; have hp4 := hp3.kept hg4 (by have := hp2.lt; simp; omega); have hs4 := hs3.kept hg4 (by have := hs2.ltB; simp; omega) (by have := hs2.ltD; simp; omega); have k2 := hp4.c0)) | (go_at_call 15; ((with_reducible refine (cld _ _ _ ht4).mono ?_); rintro e w5 ⟨rfl, hg5⟩; have hs5 := hs4.later hg5; have ht5 := ht4.later hg5)) | (go_at_call 16; ((with_reducible refine (cdf _ _ _ _ _ hs5 ht5).mono ?_); rintro e w6 ⟨v6, rfl, R6⟩; have R7 := R6.words; rw [HD.out] at R7; obtain ⟨a7, c7, hv7⟩ := OwnW.slice R7; subst hv7; have k6 := (hp4.later hg5).later R6.grown; have k8 := k6.c1; have k9 := k6.c0)))
      go_quiet (fail)
      go_wp2
      go_ret
      exact ⟨ret_bool' rfl, grown_trans (grown_trans (grown_trans (grown_step (grown_trans (grown_trans (grown_trans hg0 hg1) R.grown) hg3) hg4 (fun i hi => .inl (by injection hi; have := hp2.lt; omega))) hg5) R6.grown) (grown_drewN _ _)⟩
    · rw [if_pos ⟨hx8, hxy⟩] at hd
      have HD := Lib.hid hd
      clear hN hm h800 hd e1 e2 e3 hs hl hxy hx8
      go_enter Try.func4, Try.ntmps4
      go_wp2_with (first | (go_at_call 8; ((with_reducible refine (awake_any _).mono ?_); rintro e w1 ⟨rfl, hg1⟩; have hp1 := hp0.later hg1)) | (go_at_call 9; ((with_reducible refine (hmay _).mono ?_); rintro e w9 ⟨rfl, rfl⟩)) | (go_at_call 10; ((with_reducible refine (hf _ (grown_trans hg0 hg1)).mono ?_); rintro e w2 ⟨v, wv, rfl, R⟩; obtain ⟨B, D, hv, _, _, hs2⟩ := R.seg.yes hne; subst hv; have hp2 := hp1.later R.grown)) | (go_at_call 13; ((with_reducible refine (copy_yes hs2).mono ?_); rintro e w3 ⟨rfl, hg3, ht3⟩; have hp3 := hp2.later hg3; have hs3 := hs2.later hg3; have k0 := hp3.c0; have k1 := hp3.c1)) | (go_at_call 14; ((with_reducible refine (cst _ _ _ ht3).mono ?_); rintro e w4 ⟨rfl, hg4, ht4⟩; have hp4 := hp3.kept hg4 (by have := hp2.lt; simp; omega); have hs4 := hs3.kept hg4 (by have := hs2.ltB; simp; omega) (by have := hs2.ltD; simp; omega); have k2 := hp4.c0)) | (go_at_call 15; ((with_reducible refine (cld _ _ _ ht4).mono ?_); rintro e w5 ⟨rfl, hg5⟩; have hs5 := hs4.later hg5; have ht5 := ht4.later hg5)) | (go_at_call 16; ((with_reducible refine (cdf _ _ _ _ _ hs5 ht5).mono ?_); rintro e w6 ⟨v6, rfl, R6⟩; have R7 := R6.words; rw [HD.out] at R7; obtain ⟨g7, c7, hv7, _, _⟩ := World.ownsRow.form R7 (Nat.zero_lt_one); subst hv7; have k7 := OwnW.at_ R7 0 Nat.zero_lt_one; have k6 := (hp4.later hg5).later R6.grown; have k8 := k6.c1; have k9 := k6.c0)))
      go_quiet (fail)
      go_wp2
      go_ret
      exact ⟨ret_bool' rfl, grown_trans (grown_trans (grown_trans (grown_step (grown_trans (grown_trans (grown_trans hg0 hg1) R.grown) hg3) hg4 (fun i hi => .inl (by injection hi; have := hp2.lt; omega))) hg5) R6.grown) (grown_drewN _ _)⟩
  · have e1 : errW ws x = 1 := by unfold errW; rw [if_neg hs]
    have e2 : put ws x y = ws := put_none hs
    have e3 : getW ws x = 0 := by unfold getW; rw [if_neg hs]
    rw [e2] at cst cld cdf
    rw [e1] at cst cld
    rw [e3] at cld
    have hd := diff_same ws (max ws.length ws.length)
    have HD := Lib.hid hd
    clear hN hm h800 hd e1 e2 e3 hs hl
    go_enter Try.func4, Try.ntmps4
    go_wp2_with (first | (go_at_call 8; ((with_reducible refine (awake_any _).mono ?_); rintro e w1 ⟨rfl, hg1⟩; have hp1 := hp0.later hg1)) | (go_at_call 9; ((with_reducible refine (hmay _).mono ?_); rintro e w9 ⟨rfl, rfl⟩)) | (go_at_call 10; ((with_reducible refine (hf _ (grown_trans hg0 hg1)).mono ?_); rintro e w2 ⟨v, wv, rfl, R⟩; obtain ⟨B, D, hv, _, _, hs2⟩ := R.seg.yes hne; subst hv; have hp2 := hp1.later R.grown)) | (go_at_call 13; ((with_reducible refine (copy_yes hs2).mono ?_); rintro e w3 ⟨rfl, hg3, ht3⟩; have hp3 := hp2.later hg3; have hs3 := hs2.later hg3; have k0 := hp3.c0; have k1 := hp3.c1)) | (go_at_call 14; ((with_reducible refine (cst _ _ _ ht3).mono ?_); rintro e w4 ⟨rfl, hg4, ht4⟩; have hp4 := hp3.kept hg4 (by have := hp2.lt; simp; omega); have hs4 := hs3.kept hg4 (by have := hs2.ltB; simp; omega) (by have := hs2.ltD; simp; omega); have k2 := hp4.c0)) | (go_at_call 15; ((with_reducible refine (cld _ _ _ ht4).mono ?_); rintro e w5 ⟨rfl, hg5⟩; have hs5 := hs4.later hg5; have ht5 := ht4.later hg5)) | (go_at_call 16; ((with_reducible refine (cdf _ _ _ _ _ hs5 ht5).mono ?_); rintro e w6 ⟨v6, rfl, R6⟩; have R7 := R6.words; rw [HD.out] at R7; obtain ⟨a7, c7, hv7⟩ := OwnW.slice R7; subst hv7)))
    go_ret
    exact ⟨ret_bool' rfl, grown_trans (grown_trans (grown_step (grown_trans (grown_trans (grown_trans hg0 hg1) R.grown) hg3) hg4 (fun i hi => .inl (by injection hi; have := hp2.lt; omega))) hg5) R6.grown⟩
theorem walk (a0 : Int) (w0 : (Lit.int .u64 a0).wf = true) {la : Option Addr} {n c : Nat} {X V : Nat → Nat} (hn : n ≤ maxLen) {w : World} (hp : PutsAt w la n X V) (x y : Nat) (hx : x < 18446744073709551616) (hy : y < 18446744073709551616) :
    Calls Try.prog 4 #[.int .u64 a0, .slice la n c, .agg #[.int .u64 x, .int .u64 y]] w fun e w' => e = .returned (.bool true) ∧ Below w.heap.size w w' := by
  have b0 := bounds_u64 w0
  obtain ⟨m, rfl⟩ := Int.eq_ofNat_of_zero_le b0.1
  by_cases hc : m ≤ 800 ∧ may m
  · exact (walk_yes m w hp hn hc.1 hc.2 x y hx hy).mono fun e w' ⟨h1, h2⟩ => ⟨h1, grown_below h2⟩
  · have hno : 800 < m ∨ ¬ may m := by
      by_cases h : m ≤ 800
      · exact .inr fun h' => hc ⟨h, h'⟩
      · exact .inl (by omega)
    exact (walk_up m (by omega) la n c x y w hno).mono fun e w' ⟨h1, h2⟩ => ⟨h1, grown_below h2⟩

theorem laidOut : laidOutB Try.prog = true := by kernel_rfl
/-! ### The row's step: the guide's frame -/
theorem own : ownKnob Try.prog.godebug = none := by kernel_rfl
set_option maxRecDepth 100000 in
theorem lifted (os : Os) (started : os.Started) (H : Type) (enc : TypeId × Value → H) :
    ReturnsInHanded {} Try.checked os 4 .any (Rows.segStaysSpec.pre6 enc Try.prog Try.f4 Rows.segStaysRow.domain false) (Rows.segStaysSpec.post enc Try.prog Try.f4 false true false false) := by
  refine returnsInHanded_of_change (C := Try.checked) own started (by kernel_rfl) Try.func4
    (ChangeSpec.witness6 (enc := enc) (C := Try.checked) false ⟨#[], #[.int .u64 0, .slice none 0 0, .agg #[.int .u64 0, .int .u64 0]], []⟩ 8 (by kernel_rfl) (by kernel_rfl) (by kernel_rfl) (by kernel_rfl)) ?_
  intro W base args ds gs before hval0 hW hcnd _
  have hval : ∀ (j : Nat) t v, Try.f4.params[j]? = some t → args[j]? = some v → Value.okWide Try.prog W .any base t v := hval0
  have hW' := hW
  obtain ⟨p, q, hA0, hV, rfl, hfz, hnd⟩ := hW
  have hA : DataW.TrodAll enc Try.prog W 0 (fun _ => true) true Try.f4.params.toList args.toList ds p := hA0
  rw [Try.params4] at hA hval
  obtain ⟨v0, vs0, d0, ds0, p0, q0, hargs, rfl, rfl, h0, r0⟩ := trodAll_cons hA
  obtain ⟨v1, vs1, d1, ds1, p1, q1, rfl, rfl, rfl, h1, r1⟩ := trodAll_cons r0
  obtain ⟨v2, vs2, d2, ds2, p2, q2, rfl, rfl, rfl, h2, r2⟩ := trodAll_cons r1
  obtain ⟨rfl, rfl, rfl⟩ := trodAll_nil r2
  obtain rfl : args = #[v0, v1, v2] := by cases args; simp_all
  obtain ⟨rfl, rfl⟩ := trodVars_none hV
  obtain ⟨a0, rfl, rfl, rfl, w0⟩ := open_int Try.underlying22 (hval 0 22 v0 rfl rfl) h0
  have lt1 : ∀ x ∈ p1, x.block < W.heap.size := by obtain ⟨m, hm⟩ := h1; exact DataW.trod_lt m _ _ _ hm
  obtain ⟨la1, n1, c1, X1, V1, rfl, hn1, hp1⟩ := open_puts (hval 1 23 v1 rfl rfl) h1
  have lt2 : ∀ x ∈ p2, x.block < W.heap.size := by obtain ⟨m, hm⟩ := h2; exact DataW.trod_lt m _ _ _ hm
  obtain ⟨x2, y2, rfl, hx2, hy2⟩ := open_put (hval 2 38 v2 rfl rfl) h2
  clear hA0 hval0
  refine (walk a0 w0 hn1 hp1 x2 y2 hx2 hy2).mono fun e W' ⟨he, bel⟩ => ?_
  subst he
  exact ⟨_, rfl, _, _, _, [], _, [], hW', trodAll_mk1 (shut_bool Try.underlying4 _), (trodAll_cons_mk (shut_int Try.underlying22 w0) (trodAll_cons_mk (Below.trod laidOut (by kernel_rfl) (of_decide_eq_true (by kernel_rfl)) h1 bel lt1) (trodAll_cons_mk (Below.trod laidOut (by kernel_rfl) (of_decide_eq_true (by kernel_rfl)) h2 bel lt2) trodAll_mk0))), rfl, bel.frame _, fun h => by cases h⟩

theorem over : Rows.segStaysRow.holds Try.pinned (OpenSpec.ofChange Rows.segStaysSpec) :=
  OpenClaim.holds_of_wide 4 Try.f4 rfl rfl rfl rfl rfl rfl rfl ⟨rfl, rfl, rfl, rfl, rfl⟩ rfl rfl rfl rfl rfl (by kernel_rfl) Try.func4 (by kernel_rfl)
    (of_decide_eq_true (by kernel_rfl)) (by unfold Func.isWrapper; first | (rw [if_pos (by decide +kernel)]; kernel_rfl) | (rw [if_neg (by decide +kernel)]; exact ⟨rfl, rfl⟩))
    (fun os started H enc _ => lifted os started H enc)

theorem proved : Rows.SegStaysSaid :=
  over
#print axioms proved

end Go.Proofs.Ytdmogmdhdhgmeaa.segStays
