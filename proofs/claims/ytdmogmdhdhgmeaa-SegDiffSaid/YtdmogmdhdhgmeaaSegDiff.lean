/-
  The offsets of words that are unlike in any two segments. The statement SegDiff, for every two sizes and every two lists of pairs; no condition.
-/
import Derived.Test.YtdmogmdhdhgmeaaSegP
namespace Go.Proofs.Ytdmogmdhdhgmeaa.segDiff
open Go.ChangeShapes Go.WideShapes Go.ChangeAt Go.RowKit Go.Deep
set_option linter.unusedVariables false
set_option linter.unusedSimpArgs false

/-! ### Two numbers that are handed in -/
theorem cells_w2 : Try.prog.cellsOf 45 = 2 := by kernel_rfl
section
variable {H : Type} {enc : TypeId × Value → H} {w : World} {base : Nat} {spare : Nat → Bool} {held : Bool}
theorem okWide_pair2 {r : Reach} {b0 : Nat} {v : Value} (h : Value.okWide Try.prog w r b0 45 v) : ∃ cs, v = .agg cs ∧ cs.size = Try.prog.cellsOf 45 := by
  have ht := Try.underlying45
  unfold Value.okWide at h
  simp only [ht] at h
  cases v <;> simp_all
theorem open_pair2 {r : Reach} {b0 : Nat} {v : Value} {d : DataW H} {p : List MemPlace} (hv : Value.okWide Try.prog w r b0 45 v) (h : DataW.Trod enc Try.prog w base spare held 45 v d p) :
    ∃ x y : Nat, v = .agg #[.int .u64 x, .int .u64 y] ∧ x < 18446744073709551616 ∧ y < 18446744073709551616 := by
  obtain ⟨cs, rfl, hsz⟩ := okWide_pair2 hv
  obtain ⟨c0, c1, rfl⟩ := Joins.array2 (hsz.trans cells_w2)
  obtain ⟨fuel, hf⟩ := h
  obtain ⟨xs, m, _, _, _, hl, hx⟩ := DataW.trod_array Try.underlying45 hf
  have a0 := hx 0 (by decide)
  have a1 := hx 1 (by decide)
  rw [cells_u64] at a0 a1
  obtain ⟨y0, e0⟩ : ∃ y, xs[0]? = some y := ⟨_, List.getElem?_eq_getElem (by omega)⟩
  obtain ⟨y1, e1⟩ : ∃ y, xs[1]? = some y := ⟨_, List.getElem?_eq_getElem (by omega)⟩
  rw [e0] at a0
  rw [e1] at a1
  obtain ⟨n0, g0, _, w0⟩ := DataW.trod_int Try.underlying22 a0
  obtain ⟨n1, g1, _, w1⟩ := DataW.trod_int Try.underlying22 a1
  simp [Value.cells] at g0 g1
  have b0 := bounds_u64 w0
  have b1 := bounds_u64 w1
  obtain ⟨x, rfl⟩ := Int.eq_ofNat_of_zero_le b0.1
  obtain ⟨y, rfl⟩ := Int.eq_ofNat_of_zero_le b1.1
  exact ⟨x, y, by rw [g0, g1], by omega, by omega⟩
end

/-- filled, whatever the size. -/
theorem filled_all {w : World} {la : Option Addr} {n c : Nat} {X V : Nat → Nat} (hp : PutsAt w la n X V) (hn : n ≤ maxLen) (N : Nat) (hN : N < 18446744073709551616) :
    ∃ ws : List Nat, ws.length ≤ 131072 ∧ ∀ w', w.grownBy w' none → Calls Try.prog 10 #[.int .u64 N, .slice la n c] w' (FilledPost w' ws) := by
  by_cases hm : may N
  · obtain ⟨m, rfl, h1, h2⟩ := may_eight hm
    obtain ⟨ws, hl, _, _, hf⟩ := filled_ws (c := c) hp hn m h1 h2
    exact ⟨ws, by omega, hf⟩
  · exact ⟨_, by rw [fillW_len]; decide, fun w' hg => filled_not (hp.later hg) hn N hN hm⟩
theorem later2 {w w1 : World} {b o : Nat} {u : Value} (hg : w.grownBy w1 none) (hb : b < w.heap.size) (h : w.cell? ⟨b, o, none⟩ = some u) : w1.cell? ⟨b, o, none⟩ = some u :=
  (World.cell?_of_block (w := w) (a := ⟨b, o, none⟩) (hg.block b hb (by simp))).trans h
set_option maxHeartbeats 1000000 in
theorem walk (N M : Nat) (hN : N < 18446744073709551616) (hM : M < 18446744073709551616) {la lb : Option Addr} {n c n' c' : Nat} {X V X' V' : Nat → Nat} (hn : n ≤ maxLen) {w : World} (hp : PutsAt w la n X V) (hn' : n' ≤ maxLen) (hp' : PutsAt w lb n' X' V') :
    Calls Try.prog 5 #[.agg #[.int .u64 N, .int .u64 M], .slice la n c, .slice lb n' c'] w fun e w' => e = .returned (.bool true) ∧ Below w.heap.size w w' := by
  have hg0 : w.grownBy (w.alloc (.cells #[.int .u64 (N : Nat), .int .u64 (M : Nat)] 45)) none := World.grownBy_alloc _ _ _
  have q0 : (w.alloc (.cells #[.int .u64 (N : Nat), .int .u64 (M : Nat)] 45)).cell? ⟨w.heap.size, 0, none⟩ = some (.int .u64 N) := by go_cell
  have q1 : (w.alloc (.cells #[.int .u64 (N : Nat), .int .u64 (M : Nat)] 45)).cell? ⟨w.heap.size, 1, none⟩ = some (.int .u64 M) := by go_cell
  have hlt : w.heap.size < (w.alloc (.cells #[.int .u64 (N : Nat), .int .u64 (M : Nat)] 45)).heap.size := by rw [World.size_alloc]; omega
  by_cases h1 : 800 < (N : Int)
  · go_enter Try.func5, Try.ntmps5
    go_wp2_with (first | (go_at_call 8; ((with_reducible refine (awake_any _).mono ?_); rintro e w1 ⟨rfl, hg1⟩; have p0 := later2 hg1 hlt q0; have p1 := later2 hg1 hlt q1)))
    go_ret
    exact ⟨rfl, grown_below (grown_trans hg0 hg1)⟩
  by_cases h2 : 800 < (M : Int)
  · go_enter Try.func5, Try.ntmps5
    go_wp2_with (first | (go_at_call 8; ((with_reducible refine (awake_any _).mono ?_); rintro e w1 ⟨rfl, hg1⟩; have p0 := later2 hg1 hlt q0; have p1 := later2 hg1 hlt q1)))
    go_ret
    exact ⟨rfl, grown_below (grown_trans hg0 hg1)⟩
  obtain ⟨ws, hl, hf⟩ := filled_all (c := c) hp hn N hN
  obtain ⟨xs, hl', hf'⟩ := filled_all (c := c') hp' hn' M hM
  have hd := diff_same ws (max ws.length ws.length)
  have HD := Lib.hid hd
  have hdl := diffL_len ws xs (max ws.length xs.length)
  have hdl' : (diffL ws xs (max ws.length xs.length)).length ≤ 1000000 := by omega
  clear hd hdl
  go_enter Try.func5, Try.ntmps5
  go_wp2_with (first | (go_at_call 8; ((with_reducible refine (awake_any _).mono ?_); rintro e w1 ⟨rfl, hg1⟩; have p0 := later2 hg1 hlt q0; have p1 := later2 hg1 hlt q1; have hlt1 := Nat.lt_of_lt_of_le hlt hg1.size)) | (go_at_call 10; ((with_reducible refine (hf _ (grown_trans hg0 hg1)).mono ?_); rintro e w2 ⟨v, wv, rfl, R⟩; have s0 := later2 R.grown hlt1 p0; have s1 := later2 R.grown hlt1 p1; have hg2 := grown_trans (grown_trans hg0 hg1) R.grown)) | (go_at_call 10; ((with_reducible refine (hf' _ hg2).mono ?_); rintro e w3 ⟨v', xv, rfl, R'⟩; have hs3 := (R.seg.later R'.grown).at_; have ht3 := R'.seg.at_; have ho3 := R.own.later R'.grown; have hx3 := R'.own)) | (go_at_call 16; ((with_reducible refine (diff_any hs3 ht3).mono ?_); rintro e w4 ⟨v4, rfl, R4⟩; have hs4 := hs3.later R4.grown; have ho4 := ho3.later R4.grown; have hx4 := hx3.later R4.grown)) | (go_at_call 18; ((with_reducible refine (rdiff_any ho4 hx4 hl hl').mono ?_); rintro e w5 ⟨v5, rfl, R5⟩; have hs5 := hs4.later R5.grown; have hd4 := R4.words.later R5.grown; have hd5 := R5.words)) | (go_at_call 17; ((with_reducible refine (nums_same hd4 hd5 hdl').mono ?_); rintro e w6 ⟨rfl, hg6⟩; have hs6 := hs5.later hg6)) | (go_at_call 16; ((with_reducible refine (diff_any hs6 hs6).mono ?_); rintro e w7 ⟨v7, rfl, R7⟩; have R8 := R7.words; rw [HD.out] at R8; obtain ⟨a8, c8, hv8⟩ := OwnW.slice R8; subst hv8)))
  go_ret
  exact ⟨ret_bool' rfl, grown_below (grown_trans (grown_trans (grown_trans (grown_trans (grown_trans hg2 R'.grown) R4.grown) R5.grown) hg6) R7.grown)⟩

theorem laidOut : laidOutB Try.prog = true := by kernel_rfl
/-! ### The row's step: the guide's frame -/
theorem own : ownKnob Try.prog.godebug = none := by kernel_rfl
set_option maxRecDepth 100000 in
theorem lifted (os : Os) (started : os.Started) (H : Type) (enc : TypeId × Value → H) :
    ReturnsInHanded {} Try.checked os 5 .any (Rows.segDiffSpec.pre6 enc Try.prog Try.f5 Rows.segDiffRow.domain false) (Rows.segDiffSpec.post enc Try.prog Try.f5 false true false false) := by
  refine returnsInHanded_of_change (C := Try.checked) own started (by kernel_rfl) Try.func5
    (ChangeSpec.witness6 (enc := enc) (C := Try.checked) false ⟨#[], #[.agg #[.int .u64 0, .int .u64 0], .slice none 0 0, .slice none 0 0], []⟩ 8 (by kernel_rfl) (by kernel_rfl) (by kernel_rfl) (by kernel_rfl)) ?_
  intro W base args ds gs before hval0 hW hcnd _
  have hval : ∀ (j : Nat) t v, Try.f5.params[j]? = some t → args[j]? = some v → Value.okWide Try.prog W .any base t v := hval0
  have hW' := hW
  obtain ⟨p, q, hA0, hV, rfl, hfz, hnd⟩ := hW
  have hA : DataW.TrodAll enc Try.prog W 0 (fun _ => true) true Try.f5.params.toList args.toList ds p := hA0
  rw [Try.params5] at hA hval
  obtain ⟨v0, vs0, d0, ds0, p0, q0, hargs, rfl, rfl, h0, r0⟩ := trodAll_cons hA
  obtain ⟨v1, vs1, d1, ds1, p1, q1, rfl, rfl, rfl, h1, r1⟩ := trodAll_cons r0
  obtain ⟨v2, vs2, d2, ds2, p2, q2, rfl, rfl, rfl, h2, r2⟩ := trodAll_cons r1
  obtain ⟨rfl, rfl, rfl⟩ := trodAll_nil r2
  obtain rfl : args = #[v0, v1, v2] := by cases args; simp_all
  obtain ⟨rfl, rfl⟩ := trodVars_none hV
  have lt0 : ∀ x ∈ p0, x.block < W.heap.size := by obtain ⟨m, hm⟩ := h0; exact DataW.trod_lt m _ _ _ hm
  obtain ⟨x0, y0, rfl, hx0, hy0⟩ := open_pair2 (hval 0 45 v0 rfl rfl) h0
  have lt1 : ∀ x ∈ p1, x.block < W.heap.size := by obtain ⟨m, hm⟩ := h1; exact DataW.trod_lt m _ _ _ hm
  obtain ⟨la1, n1, c1, X1, V1, rfl, hn1, hp1⟩ := open_puts (hval 1 23 v1 rfl rfl) h1
  have lt2 : ∀ x ∈ p2, x.block < W.heap.size := by obtain ⟨m, hm⟩ := h2; exact DataW.trod_lt m _ _ _ hm
  obtain ⟨la2, n2, c2, X2, V2, rfl, hn2, hp2⟩ := open_puts (hval 2 23 v2 rfl rfl) h2
  clear hA0 hval0
  refine (walk x0 y0 hx0 hy0 hn1 hp1 hn2 hp2).mono fun e W' ⟨he, bel⟩ => ?_
  subst he
  exact ⟨_, rfl, _, _, _, [], _, [], hW', trodAll_mk1 (shut_bool Try.underlying4 _), (trodAll_cons_mk (Below.trod laidOut (by kernel_rfl) (of_decide_eq_true (by kernel_rfl)) h0 bel lt0) (trodAll_cons_mk (Below.trod laidOut (by kernel_rfl) (of_decide_eq_true (by kernel_rfl)) h1 bel lt1) (trodAll_cons_mk (Below.trod laidOut (by kernel_rfl) (of_decide_eq_true (by kernel_rfl)) h2 bel lt2) trodAll_mk0))), rfl, bel.frame _, fun h => by cases h⟩

theorem over : Rows.segDiffRow.holds Try.pinned (OpenSpec.ofChange Rows.segDiffSpec) :=
  OpenClaim.holds_of_wide 5 Try.f5 rfl rfl rfl rfl rfl rfl rfl ⟨rfl, rfl, rfl, rfl, rfl⟩ rfl rfl rfl rfl rfl (by kernel_rfl) Try.func5 (by kernel_rfl)
    (of_decide_eq_true (by kernel_rfl)) (by unfold Func.isWrapper; first | (rw [if_pos (by decide +kernel)]; kernel_rfl) | (rw [if_neg (by decide +kernel)]; exact ⟨rfl, rfl⟩))
    (fun os started H enc _ => lifted os started H enc)

theorem proved : Rows.SegDiffSaid :=
  over
#print axioms proved

end Go.Proofs.Ytdmogmdhdhgmeaa.segDiff
