/-
  Thought of in two, one behind the other, and each applied, it is as thought of in one. The statement TxJoins, for every three lists of pairs; no condition.
-/
import Derived.Test.YtinkfichgknifaaTxJ
namespace Go.Proofs.Ytinkfichgknifaa.txJoins
open Go.ChangeShapes Go.WideShapes Go.ChangeAt Go.RowKit
set_option linter.unusedVariables false
set_option linter.unusedSimpArgs false

theorem walk_up (la la2 la3 : Option Addr) (n c n2 c2 n3 c3 : Nat) (w : World) (h2 : n2 ≤ 10000000000000) (h3 : n3 ≤ 10000000000000) (h : 40 < n2 + n3) :
    Calls Try.prog 6 #[.slice la n c, .slice la2 n2 c2, .slice la3 n3 c3] w fun e w' => e = .returned (.bool true) ∧ w.grownBy w' none := by
  have hd : (40 : Int) < (n2 : Int) + (n3 : Int) := by omega
  go_enter Try.func6, Try.ntmps6
  go_wp2_with (first | (go_at_call 9; ((with_reducible refine (awake3 _).mono ?_); rintro e w1 ⟨rfl, hg1⟩)))
  go_ret
  exact ⟨rfl, hg1⟩
/-- Both lists, one behind the other, in a row of the call's own: an argument for the next call. -/
theorem both_made {w5 w6 w7 : World} {v1 v2 : Value} {n2 n3 : Nat} {X2 V2 X3 V3 : Nat → Nat} {LL : List (Nat × Nat)} {b : Nat}
    (hown1 : w6.ownsRow w5.heap.size 47 2 v1 n2 (cellsXV X2 V2 (List.range n2))) (hown2 : w7.ownsRow w5.heap.size 47 2 v2 (n2 + n3) (cellsXV X2 V2 (List.range n2) ++ cellsXV X3 V3 (List.range n3)))
    (hg6 : w5.grownBy w6 none) (hgr2 : w6.grownBy w7 v1.ownBlock) (hnil1 : v1 = .slice none 0 0 ↔ (.slice (some ⟨b, 0, none⟩) 0 0 : Value) = .slice none 0 0 ∧ n2 = 0) (hnil2 : v2 = .slice none 0 0 ↔ v1 = .slice none 0 0 ∧ n3 = 0)
    (hL : LL.length = n2 + n3) (hC : cellsXV X2 V2 (List.range n2) ++ cellsXV X3 V3 (List.range n3) = cellsP LL) (hlt : ∀ i, txX LL i < 18446744073709551616 ∧ txV LL i < 18446744073709551616) :
    ∃ g cap, v2 = .slice (some ⟨g, 0, none⟩) (n2 + n3) cap ∧ PutsAt w7 (some ⟨g, 0, none⟩) (n2 + n3) (txX LL) (txV LL) ∧ w5.grownBy w7 none := by
  rcases hown2.2 with ⟨hv, _⟩ | ⟨g, cap, cur, hv, _⟩
  · exact absurd (hnil1.1 (hnil2.1 hv).1).1 (by simp)
  · refine ⟨g, cap, hv, ?_, grown_step hg6 hgr2 (fun i hi => .inl (hown1.lt i hi).1)⟩
    rw [hC, hv, ← hL] at hown2
    rw [← hL]
    exact puts_of_own hown2 hlt
set_option maxRecDepth 100000 in
set_option maxHeartbeats 4000000 in
theorem walk_core {la : Option Addr} {n c : Nat} {X V : Nat → Nat} (hn : n ≤ maxLen) {w : World} (hp : PutsAt w la n X V) {la2 : Option Addr} {n2 c2 : Nat} {X2 V2 : Nat → Nat} (hp2 : PutsAt w la2 n2 X2 V2) {la3 : Option Addr} {n3 c3 : Nat} {X3 V3 : Nat → Nat} (hp3 : PutsAt w la3 n3 X3 V3) (h40 : n2 + n3 ≤ 40) :
    Calls Try.prog 6 #[.slice la n c, .slice la2 n2 c2, .slice la3 n3 c3] w fun e w' => e = .returned (.bool true) ∧ w.grownBy w' none := by
  have hth := fun (w1 : World) (hg1 : w.grownBy w1 none) => thought_any (c := c) (c2 := c2) (hp.later hg1) hn (hp2.later hg1) (by unfold maxLen; omega)
  have hten := ten_len X V (min n 40)
  obtain ⟨ws, hws⟩ : ∃ ws, ten X V (min n 40) = ws := ⟨_, rfl⟩
  rw [hws] at hth hten
  have hth2 : ∀ (w1 : World), w.grownBy w1 none → ∀ (lb : Option Addr) (nb cb : Nat) (Xb Vb : Nat → Nat), PutsAt w1 lb nb Xb Vb → nb ≤ 40 → Calls Try.prog 10 #[.slice la n c, .slice lb nb cb] w1 (Thought3 w1 ws (thinkL ws Xb Vb nb)) := by
    intro w1 hg1 lb nb cb Xb Vb hb hnb
    have := thought_any (c := c) (c2 := cb) (hp.later hg1) hn hb (by unfold maxLen; omega)
    rw [hws, Nat.min_eq_left hnb] at this
    exact this
  rw [Nat.min_eq_left (by omega : n2 ≤ 40)] at hth
  have hj := joined (ws := ws) (X := X2) (X' := X3) (fun i => (hp2.lt i).2) (fun i => (hp3.lt i).2) n2 n3
  obtain ⟨LL, hLL⟩ : ∃ LL, pairsL X2 V2 n2 ++ pairsL X3 V3 n3 = LL := ⟨_, rfl⟩
  have hLlen : LL.length = n2 + n3 := by rw [← hLL, List.length_append, pairsL_len, pairsL_len]
  have hLlt : ∀ i, txX LL i < 18446744073709551616 ∧ txV LL i < 18446744073709551616 := fun i => by
    rw [← hLL]
    rcases Nat.lt_or_ge i n2 with h | h
    · rw [(both_first X2 V2 X3 V3 h).1, (both_first X2 V2 X3 V3 h).2]; exact hp2.lt i
    · rcases Nat.lt_or_ge (i - n2) n3 with h' | h'
      · have := both_next X2 V2 X3 V3 (n := n2) h'
        rw [show n2 + (i - n2) = i by omega] at this
        rw [this.1, this.2]; exact hp3.lt _
      · unfold txX txV
        rw [List.getD_eq_getElem?_getD, List.getElem?_eq_none (by rw [List.length_append, pairsL_len, pairsL_len]; omega)]
        decide
  have hLcells : cellsXV X2 V2 (List.range n2) ++ cellsXV X3 V3 (List.range n3) = cellsP LL := by
    rw [← hLL, cellsP_app, pairsL_cells, pairsL_cells]
  rw [hLL] at hj
  obtain ⟨l2, hl2⟩ : ∃ l, thinkL ws X2 V2 n2 = l := ⟨_, rfl⟩
  rw [hl2] at hth hj
  obtain ⟨wz, hwz⟩ : ∃ wz, txApply ws l2 = wz := ⟨_, rfl⟩
  have hap1 := fun (w : World) (T M : Nat) (R : Option Nat) (B D : Nat) (h : Thinks w T M R B D ws l2) => txapply_any h
  rw [hwz] at hap1 hj
  have hzl : wz.length = 10 := by rw [← hwz, txApply_len]; exact hten
  obtain ⟨wf, hwf⟩ : ∃ wf, txApply ws (thinkL ws (txX LL) (txV LL) (n2 + n3)) = wf := ⟨_, rfl⟩
  rw [hwf] at hj
  have hap2 := fun (w : World) (T M : Nat) (R : Option Nat) (B D : Nat) (h : Thinks w T M R B D wz (thinkL wz X3 V3 n3)) => txapply_any h
  rw [hj] at hap2
  have hap3 := fun (w : World) (T M : Nat) (R : Option Nat) (B D : Nat) (h : Thinks w T M R B D ws (thinkL ws (txX LL) (txV LL) (n2 + n3))) => txapply_any h
  rw [hwf] at hap3
  have hd : ¬ (40 : Int) < (n2 : Int) + (n3 : Int) := by omega
  have HLC := Lib.hid hLcells
  have HLL := Lib.hid hLlen
  clear hws hl2 hwz hwf hLL hj hLcells hLlen
  go_enter Try.func6, Try.ntmps6
  go_wp2_with (first | (go_at_call 9; ((with_reducible refine (awake3 _).mono ?_); rintro e w1 ⟨rfl, hg1⟩)) | (go_at_call 10; ((with_reducible refine (hth _ hg1).mono ?_); rintro e w2 ⟨B, D, T, M, R, wv, pv, rfl, hT, hrt, hap0⟩; obtain ⟨wa, wn, wc, hwv⟩ := wv_form hrt.words; subst hwv; obtain ⟨pa, pn, pc, hpv⟩ := pv_form hrt.puts; subst hpv; have hg8 : w2.grownBy (w2.alloc (.cells #[.slice wa wn wc, .slice pa pn pc] 29)) none := World.grownBy_alloc _ _ _; have hT8 := hT.later hg8)) | (go_at_call 21; ((with_reducible refine (hap1 _ _ _ _ _ _ hT8.tx).mono ?_); rintro e w3 ⟨rfl, hg3, ht3⟩; have hT3 := hT8.seg hg3 ht3)) | (go_at_call 26; ((with_reducible refine (txnew_yes hT3.tx.seg).mono ?_); rintro e w4 ⟨rfl, hg4, ht4⟩; have hT4 : Txs w1 w4 _ _ _ _ _ _ _ := ⟨ht4, grown_trans hT3.since hg4, (by have := hT3.since.size; omega), hT3.since.size, (fun g hg => by cases hg), hT3.newB, hT3.newD⟩)))
  have hg04 := grown_trans hg1 hT4.since
  have hd3 : n3 ≤ 40 := by omega
  clear hg3 hg4 hT8 ht3 ht4 hg8 hrt hT3 hth hap1
  generalize w2.heap.size = bx at *
  obtain ⟨T4, hTT⟩ : ∃ T4, w3.heap.size + 1 = T4 := ⟨_, rfl⟩
  rw [hTT] at hT4 ⊢
  generalize w3.heap.size = M4 at *
  clear hTT
  go_loopw [12] (fun i wr => ∃ k : Nat, k ≤ n3 ∧ i = .int .i64 k ∧ ∃ R4, Txs w1 wr T4 M4 R4 B D wz (thinkL wz X3 V3 k)) (fun i _ => n3 - (intOf i).toNat)
  case atStart => exact ⟨0, Nat.zero_le _, rfl, _, hT4⟩
  case round =>
    obtain ⟨k, hk, rfl, R4, hTr⟩ := hrel
    clear hT4
    have hgr := grown_trans hg1 hTr.since
    rcases Nat.lt_or_ge k n3 with h1 | h1
    · obtain ⟨b, off, rfl, hb, hcs⟩ := (hp3.later hgr).cells (by omega)
      obtain ⟨c1, c2⟩ := hcs k h1
      clear hcs
      have hx := (hp3.lt k).1
      have hv := (hp3.lt k).2
      have hst := txstore_any (hTr.later (grown_drew (grown_refl wr none))).tx (X3 k) (V3 k) hx hv
      go_wp2
      go_still_tail 11, (by kernel_rfl)
      go_wp2_with (go_at_call 27; refine hst.mono ?_; rintro e v2 ⟨rfl, Q⟩)
      go_roundw
      case rel =>
        obtain ⟨R5, h5, _⟩ := (hTr.later (grown_drew (grown_refl wr none))).step Q
        exact ⟨k + 1, by omega, by go_num, R5, h5⟩
      case measure => simp [intOf]; omega
    · obtain rfl : k = n3 := by omega
      have hown0 := fun (w : World) => World.ownsRow_lit (base := w.heap.size) (e := 47) (size := 2) w #[] 0 (Nat.le_refl _) (by decide) rfl
      go_wp2_with (first | (go_at_call 21; ((with_reducible refine (hap2 _ _ _ _ _ _ hTr.tx).mono ?_); rintro e w5 ⟨rfl, hg5, ht5⟩; have hT5 := hTr.seg hg5 ht5; have hgA := grown_trans hg1 (grown_trans hT5.since (World.grownBy_alloc w5 (.cells #[] 47) none)); have hs5 := hT5.tx.seg; have hba : w5.heap.size ≤ (w5.alloc (.cells #[] 47)).heap.size := (by simp))) | (at_builtin; refine wpList_append_puts (hown0 w5) (hp2.later hgA) (by omega) hba rfl _ _ rfl rfl rfl ?_; intro v1 w6 hown1 hgr1 hnil1; simp only [Nat.zero_add, List.nil_append] at hown1; have hg6 : w5.grownBy w6 none := grown_new (grown_trans (grown_any (World.grownBy_alloc w5 (.cells #[] 47) none) _) hgr1) (Nat.le_refl _); have hgB := grown_trans (grown_trans hg1 hT5.since) hg6; have hb6 := hg6.size) | (at_builtin; refine wpList_append_puts hown1 (hp3.later hgB) (by omega) hb6 rfl _ _ rfl rfl rfl ?_; intro v2 w7 hown2 hgr2 hnil2; obtain ⟨g, cap, hv2, P7, hg7⟩ := both_made hown1 hown2 hg6 hgr2 hnil1 hnil2 HLL.out HLC.out hLlt; subst hv2; have hT7 := hT5.later hg7; have hs7 := hs5.later hg7) | (go_at_call 10; ((with_reducible refine (hth2 _ (grown_trans hg1 hT7.since) _ _ _ _ _ P7 h40).mono ?_); rintro e w8 ⟨B8, D8, T8, M8, R8, wv8, pv8, rfl, X8, hrt8, _⟩; obtain ⟨wa8, wn8, wc8, hwv8⟩ := wv_form hrt8.words; subst hwv8; obtain ⟨pa8, pn8, pc8, hpv8⟩ := pv_form hrt8.puts; subst hpv8; have hg9 : w8.grownBy (w8.alloc (.cells #[.slice wa8 wn8 wc8, .slice pa8 pn8 pc8] 29)) none := World.grownBy_alloc _ _ _; have X9 := X8.later hg9; have hs9 := hs7.later X9.since)) | (go_at_call 21; ((with_reducible refine (hap3 _ _ _ _ _ _ X9.tx).mono ?_); rintro e w10 ⟨rfl, hg10, ht10⟩; have X10 := X9.seg hg10 ht10; have hD8 := X8.newD; have hs10 := hs9.kept hg10 (by have := hs7.ltB; simp; omega) (by have := hs7.ltD; simp; omega))) | (go_at_call 19; ((with_reducible refine (diff_none X10.tx.seg hs10).mono ?_); rintro e w11 ⟨a11, c11, rfl, hg11⟩)))
      go_ret
      exact ⟨ret_bool' rfl, grown_trans (grown_trans (grown_trans hg1 hT7.since) X10.since) hg11⟩
theorem walk {la : Option Addr} {n c : Nat} {X V : Nat → Nat} (hn : n ≤ maxLen) {w : World} (hp : PutsAt w la n X V) {la2 : Option Addr} {n2 c2 : Nat} {X2 V2 : Nat → Nat} (hn2 : n2 ≤ maxLen) (hp2 : PutsAt w la2 n2 X2 V2) {la3 : Option Addr} {n3 c3 : Nat} {X3 V3 : Nat → Nat} (hn3 : n3 ≤ maxLen) (hp3 : PutsAt w la3 n3 X3 V3) (z2 : n2 * 16 ≤ 140737488351232) (z3 : n3 * 16 ≤ 140737488351232) :
    Calls Try.prog 6 #[.slice la n c, .slice la2 n2 c2, .slice la3 n3 c3] w fun e w' => e = .returned (.bool true) ∧ Below w.heap.size w w' := by
  rcases Nat.lt_or_ge 40 (n2 + n3) with h | h
  · exact (walk_up la la2 la3 n c n2 c2 n3 c3 w (by omega) (by omega) h).mono fun e w' ⟨h1, h2⟩ => ⟨h1, grown_below h2⟩
  · exact (walk_core hn hp hp2 hp3 h).mono fun e w' ⟨h1, h2⟩ => ⟨h1, grown_below h2⟩
theorem laidOut : laidOutB Try.prog = true := by kernel_rfl
/-! ### The row's step: the guide's frame -/
theorem own : ownKnob Try.prog.godebug = none := by kernel_rfl
set_option maxRecDepth 100000 in
theorem lifted (os : Os) (started : os.Started) (H : Type) (enc : TypeId × Value → H) :
    ReturnsInHanded {} Try.checked os 6 .any (Rows.txJoinsSpec.pre6 enc Try.prog Try.f6 Rows.txJoinsRow.domain false) (Rows.txJoinsSpec.post enc Try.prog Try.f6 false true false false) := by
  refine returnsInHanded_of_change_sized (C := Try.checked) own started (by kernel_rfl) Try.func6
    (ChangeSpec.witness6 (enc := enc) (C := Try.checked) false ⟨#[], #[.slice none 0 0, .slice none 0 0, .slice none 0 0], []⟩ 8 (by kernel_rfl) (by kernel_rfl) (by kernel_rfl) (by kernel_rfl)) ?_
  intro W base args ds gs before hval0 hW hcnd hsz _
  have hval : ∀ (j : Nat) t v, Try.f6.params[j]? = some t → args[j]? = some v → Value.okWide Try.prog W .any base t v := hval0
  have hW' := hW
  obtain ⟨p, q, hA0, hV, rfl, hfz, hnd⟩ := hW
  have hA : DataW.TrodAll enc Try.prog W 0 (fun _ => true) true Try.f6.params.toList args.toList ds p := hA0
  rw [Try.params6] at hA hval
  obtain ⟨v0, vs0, d0, ds0, p0, q0, hargs, rfl, rfl, h0, r0⟩ := trodAll_cons hA
  obtain ⟨v1, vs1, d1, ds1, p1, q1, rfl, rfl, rfl, h1, r1⟩ := trodAll_cons r0
  obtain ⟨v2, vs2, d2, ds2, p2, q2, rfl, rfl, rfl, h2, r2⟩ := trodAll_cons r1
  obtain ⟨rfl, rfl, rfl⟩ := trodAll_nil r2
  obtain rfl : args = #[v0, v1, v2] := by cases args; simp_all
  obtain ⟨rfl, rfl⟩ := trodVars_none hV
  have lt0 : ∀ x ∈ p0, x.block < W.heap.size := by obtain ⟨m, hm⟩ := h0; exact DataW.trod_lt m _ _ _ hm
  obtain ⟨la0, n0, c0, X0, V0, rfl, hn0, hp0⟩ := open_puts (hval 0 22 v0 rfl rfl) h0
  have lt1 : ∀ x ∈ p1, x.block < W.heap.size := by obtain ⟨m, hm⟩ := h1; exact DataW.trod_lt m _ _ _ hm
  obtain ⟨la1, n1, c1, X1, V1, rfl, hn1, hp1⟩ := open_puts (hval 1 22 v1 rfl rfl) h1
  have lt2 : ∀ x ∈ p2, x.block < W.heap.size := by obtain ⟨m, hm⟩ := h2; exact DataW.trod_lt m _ _ _ hm
  obtain ⟨la2, n2, c2, X2, V2, rfl, hn2, hp2⟩ := open_puts (hval 2 22 v2 rfl rfl) h2
  have z1 := puts_reach hsz (j := 1) rfl rfl h1
  have z2 := puts_reach hsz (j := 2) rfl rfl h2
  clear hA0 hval0 hsz
  refine (walk hn0 hp0 hn1 hp1 hn2 hp2 z1 z2).mono fun e W' ⟨he, bel⟩ => ?_
  subst he
  exact ⟨_, rfl, _, _, _, [], _, [], hW', trodAll_mk1 (shut_bool Try.underlying4 _), (trodAll_cons_mk (Below.trod laidOut (by kernel_rfl) (of_decide_eq_true (by kernel_rfl)) h0 bel lt0) (trodAll_cons_mk (Below.trod laidOut (by kernel_rfl) (of_decide_eq_true (by kernel_rfl)) h1 bel lt1) (trodAll_cons_mk (Below.trod laidOut (by kernel_rfl) (of_decide_eq_true (by kernel_rfl)) h2 bel lt2) trodAll_mk0))), rfl, bel.frame _, fun h => by cases h⟩

theorem over : Rows.txJoinsRow.holds Try.pinned (OpenSpec.ofChange Rows.txJoinsSpec) :=
  OpenClaim.holds_of_wide 6 Try.f6 rfl rfl rfl rfl rfl rfl rfl ⟨rfl, rfl, rfl, rfl, rfl⟩ rfl rfl rfl rfl rfl (by kernel_rfl) Try.func6 (by kernel_rfl)
    (of_decide_eq_true (by kernel_rfl)) (by unfold Func.isWrapper; first | (rw [if_pos (by decide +kernel)]; kernel_rfl) | (rw [if_neg (by decide +kernel)]; exact ⟨rfl, rfl⟩))
    (fun os started H enc _ => lifted os started H enc)

theorem proved : Rows.TxJoinsSaid :=
  over
#print axioms proved


end Go.Proofs.Ytinkfichgknifaa.txJoins
