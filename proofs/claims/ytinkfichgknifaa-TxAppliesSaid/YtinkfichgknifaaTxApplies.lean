/-
  Applied, the segment has what was thought of, and what it had; applied again nothing changes. The statement TxApplies, for every two lists of pairs; no condition.
-/
import Derived.Test.YtinkfichgknifaaTxMath
import Derived.Test.YtinkfichgknifaaPutO
namespace Go.Proofs.Ytinkfichgknifaa.txApplies
open Go.ChangeShapes Go.WideShapes Go.ChangeAt Go.RowKit
set_option linter.unusedVariables false
set_option linter.unusedSimpArgs false

set_option maxHeartbeats 4000000 in
theorem walk_core {la : Option Addr} {n c : Nat} {X V : Nat → Nat} (hn : n ≤ maxLen) {w : World} (hp : PutsAt w la n X V) {la2 : Option Addr} {n2 c2 : Nat} {X2 V2 : Nat → Nat} (hn2 : n2 ≤ maxLen) (hp2 : PutsAt w la2 n2 X2 V2) :
    Calls Try.prog 4 #[.slice la n c, .slice la2 n2 c2] w fun e w' => e = .returned (.bool true) ∧ w.grownBy w' none := by
  have hth := fun (w1 : World) (hg1 : w.grownBy w1 none) => thought_any (c := c) (c2 := c2) (hp.later hg1) hn (hp2.later hg1) hn2
  have hten := ten_len X V (min n 40)
  obtain ⟨ws, hws⟩ : ∃ ws, ten X V (min n 40) = ws := ⟨_, rfl⟩
  rw [hws] at hth hten
  have hok := thinkL_ok (ws := ws) (X := X2) (fun i => (hp2.lt i).2) (min n2 40)
  obtain ⟨l, hl⟩ : ∃ l, thinkL ws X2 V2 (min n2 40) = l := ⟨_, rfl⟩
  rw [hl] at hth hok
  clear hws hl
  have hl10 : l.length ≤ 10 := by have := hok.len; omega
  have hal : (txApply ws l).length = 10 := by rw [txApply_len]; exact hten
  have htw := apply_twice hok
  obtain ⟨wz, hwz⟩ : ∃ wz, txApply ws l = wz := ⟨_, rfl⟩
  have hap1 := fun (w : World) (T M : Nat) (R : Option Nat) (B D : Nat) (h : Thinks w T M R B D ws l) => txapply_any h
  rw [hwz] at hap1 htw hal
  have hap2 := fun (w : World) (T M : Nat) (R : Option Nat) (B D : Nat) (h : Thinks w T M R B D wz l) => txapply_any h
  rw [htw] at hap2
  have hwd := fun (w : World) (B D : Nat) (h : IsSeg w B D wz) => words_ten h hal
  have hra := fun (w : World) (base : Nat) (wv pv : Value) (h : RTx w base wv pv ws l) (hb : base ≤ w.heap.size) => rtxapply_any h hb (by omega) hok
  rw [hwz] at hra
  have hok' : TxOk wz l := by rw [← hwz]; exact hok.apply
  clear htw hwz
  go_enter Try.func4, Try.ntmps4
  go_wp2_with (first | (go_at_call 9; ((with_reducible refine (awake3 _).mono ?_); rintro e w1 ⟨rfl, hg1⟩)) | (go_at_call 10; ((with_reducible refine (hth _ hg1).mono ?_); rintro e w2 ⟨B, D, T, M, R, wv, pv, rfl, hT, hrt, hap⟩; obtain ⟨wa, wn, wc, hwv⟩ := wv_form hrt.words; subst hwv; obtain ⟨pa, pn, pc, hpv⟩ := pv_form hrt.puts; subst hpv; have hg8 : w2.grownBy (w2.alloc (.cells #[.slice wa wn wc, .slice pa pn pc] 29)) none := World.grownBy_alloc _ _ _; have hT8 := hT.later hg8; have hrt8 := hrt.later hg8)) | (go_at_call 21; ((with_reducible refine (hap1 _ _ _ _ _ _ hT8.tx).mono ?_); rintro e w3 ⟨rfl, hg3, ht3⟩)))
  have T3 := hT8.seg hg3 ht3
  have hbD : w2.heap.size ≠ D := by have := hT.tx.seg.ltD; omega
  have hb3 : w3.heap[w2.heap.size]? = some (.cells #[.slice wa wn wc, .slice pa pn pc] 29 (0, 0)) := (hg3.block _ (by simp) (by simpa using hbD)).trans (heap_alloc_new' _ _)
  have RT3 : RTx w3 w1.heap.size (.slice wa wn wc) (.slice pa pn pc) ws l := ⟨OwnW.past_seg hT8.tx.seg hg3 hrt8.words, OwnP.past_seg hT8.tx.seg hg3 hrt8.puts⟩
  have hb13 : w1.heap.size ≤ w3.heap.size := T3.since.size
  have hblk : ∀ {wr : World}, w3.grownBy wr none → wr.heap[w2.heap.size]? = some (.cells #[.slice wa wn wc, .slice pa pn pc] 29 (0, 0)) := fun {wr} hg => (hg.block _ (lt_of_block hb3) (by simp)).trans hb3
  have hcell : ∀ {wr : World}, wr.heap[w2.heap.size]? = some (.cells #[.slice wa wn wc, .slice pa pn pc] 29 (0, 0)) → wr.cell? ⟨w2.heap.size, 0, none⟩ = some (.slice wa wn wc) ∧ wr.cell? ⟨w2.heap.size, 1, none⟩ = some (.slice pa pn pc) := fun {wr} this => ⟨by simp [World.cell?, this], by simp [World.cell?, this]⟩
  clear hb3 hg3 ht3 hT8 hrt8 hrt hth hap1
  obtain ⟨c0, c1⟩ := hcell (hblk (grown_drew (grown_refl w3 none)))
  have HG : w3.grownBy w3.drew none := grown_drew (grown_refl _ _)
  generalize hbx : w2.heap.size = bx at *
  go_region_held3 (fun w' => w'.cell? ⟨bx, 0, none⟩ = some (.slice wa wn wc) ∧ w'.cell? ⟨bx, 1, none⟩ = some (.slice pa pn pc)) (go_keep)
    (first | (go_at_call 23; refine (hwd _ _ _ (T3.later HG).tx.seg).mono ?_; rintro e w4 ⟨v4, rfl, ho4, hg4⟩; replace HG := grown_trans HG hg4; obtain ⟨m0, m1⟩ := hcell (hblk HG)) | (go_at_call 24; refine (hra _ _ _ _ (RT3.later HG) (Nat.le_trans hb13 HG.size)).mono ?_; rintro e w5 ⟨v5, rfl, ho5, hg5⟩; replace HG := grown_trans HG hg5; have ho6 := ho4.later hg5; obtain ⟨m2, m3⟩ := hcell (hblk HG)) | (go_at_call 22; refine (nums_same ho6 ho5 (by omega)).mono ?_; rintro e w6 ⟨rfl, hg6⟩; replace HG := grown_trans HG hg6; obtain ⟨m4, m5⟩ := hcell (hblk HG)))
  have T6 := T3.later HG
  have RT6 := RT3.later HG
  have h6 := hblk HG
  have hb16 : w1.heap.size ≤ w6.heap.size := Nat.le_trans hb13 HG.size
  have hs36 : w1.grownBy w6 none := T6.since
  clear hblk HG ho4 ho5 ho6 m0 m1 m2 m3 m4 m5 c0 c1
  go_wp2_with (first | (go_at_call 21; ((with_reducible refine (hap2 _ _ _ _ _ _ T6.tx).mono ?_); rintro e w7 ⟨rfl, hg7, ht7⟩)))
  have T7 := T6.seg hg7 ht7
  have h7 := (hg7.block _ (lt_of_block h6) (by simpa using hbD)).trans h6
  have RT7 : RTx w7 w1.heap.size (.slice wa wn wc) (.slice pa pn pc) ws l := ⟨OwnW.past_seg T6.tx.seg hg7 RT6.words, OwnP.past_seg T6.tx.seg hg7 RT6.puts⟩
  have hb17 : w1.heap.size ≤ w7.heap.size := T7.since.size
  have hblk : ∀ {wr : World}, w7.grownBy wr none → wr.heap[bx]? = some (.cells #[.slice wa wn wc, .slice pa pn pc] 29 (0, 0)) := fun {wr} hg => (hg.block _ (lt_of_block h7) (by simp)).trans h7
  clear h6 hg7 ht7 T3 T6 RT3 RT6 h7
  obtain ⟨c0, c1⟩ := hcell (hblk (grown_drew (grown_refl w7 none)))
  have HG : w7.grownBy w7.drew none := grown_drew (grown_refl _ _)
  go_region_held3 (fun w' => w'.cell? ⟨bx, 0, none⟩ = some (.slice wa wn wc) ∧ w'.cell? ⟨bx, 1, none⟩ = some (.slice pa pn pc)) (go_keep)
    (first | (go_at_call 23; refine (hwd _ _ _ (T7.later HG).tx.seg).mono ?_; rintro e w8 ⟨v8, rfl, ho8, hg8⟩; replace HG := grown_trans HG hg8; obtain ⟨m0, m1⟩ := hcell (hblk HG)) | (go_at_call 24; refine (hra _ _ _ _ (RT7.later HG) (Nat.le_trans hb17 HG.size)).mono ?_; rintro e w9 ⟨v9, rfl, ho9, hg9⟩; replace HG := grown_trans HG hg9; have ho6 := ho8.later hg9; obtain ⟨m2, m3⟩ := hcell (hblk HG)) | (go_at_call 22; refine (nums_same ho6 ho9 (by omega)).mono ?_; rintro e w10 ⟨rfl, hg10⟩; replace HG := grown_trans HG hg10; obtain ⟨m4, m5⟩ := hcell (hblk HG)) | (go_at_call 15; refine (txputs_any (T7.later HG).tx).mono ?_; rintro e w11 ⟨v11, rfl, ho11, hg11⟩; replace HG := grown_trans HG hg11; obtain ⟨m6, m7⟩ := hcell (hblk HG)) | (go_at_call 18; refine (rsame_any ho11 (RT7.later HG).puts (by omega)).mono ?_; rintro e w12 ⟨rfl, hg12⟩; replace HG := grown_trans HG hg12; obtain ⟨m8, m9⟩ := hcell (hblk HG)))
  have hend := grown_trans hg1 (grown_trans T7.since HG)
  go_wp2
  go_ret
  exact ⟨ret_bool' rfl, hend⟩
theorem walk {la : Option Addr} {n c : Nat} {X V : Nat → Nat} (hn : n ≤ maxLen) {w : World} (hp : PutsAt w la n X V) {la2 : Option Addr} {n2 c2 : Nat} {X2 V2 : Nat → Nat} (hn2 : n2 ≤ maxLen) (hp2 : PutsAt w la2 n2 X2 V2) :
    Calls Try.prog 4 #[.slice la n c, .slice la2 n2 c2] w fun e w' => e = .returned (.bool true) ∧ Below w.heap.size w w' :=
  (walk_core hn hp hn2 hp2).mono fun e w' ⟨h1, h2⟩ => ⟨h1, grown_below h2⟩

theorem laidOut : laidOutB Try.prog = true := by kernel_rfl
/-! ### The row's step: the guide's frame -/
theorem own : ownKnob Try.prog.godebug = none := by kernel_rfl
set_option maxRecDepth 100000 in
theorem lifted (os : Os) (started : os.Started) (H : Type) (enc : TypeId × Value → H) :
    ReturnsInHanded {} Try.checked os 4 .any (Rows.txAppliesSpec.pre6 enc Try.prog Try.f4 Rows.txAppliesRow.domain false) (Rows.txAppliesSpec.post enc Try.prog Try.f4 false true false false) := by
  refine returnsInHanded_of_change (C := Try.checked) own started (by kernel_rfl) Try.func4
    (ChangeSpec.witness6 (enc := enc) (C := Try.checked) false ⟨#[], #[.slice none 0 0, .slice none 0 0], []⟩ 8 (by kernel_rfl) (by kernel_rfl) (by kernel_rfl) (by kernel_rfl)) ?_
  intro W base args ds gs before hval0 hW hcnd _
  have hval : ∀ (j : Nat) t v, Try.f4.params[j]? = some t → args[j]? = some v → Value.okWide Try.prog W .any base t v := hval0
  have hW' := hW
  obtain ⟨p, q, hA0, hV, rfl, hfz, hnd⟩ := hW
  have hA : DataW.TrodAll enc Try.prog W 0 (fun _ => true) true Try.f4.params.toList args.toList ds p := hA0
  rw [Try.params4] at hA hval
  obtain ⟨v0, vs0, d0, ds0, p0, q0, hargs, rfl, rfl, h0, r0⟩ := trodAll_cons hA
  obtain ⟨v1, vs1, d1, ds1, p1, q1, rfl, rfl, rfl, h1, r1⟩ := trodAll_cons r0
  obtain ⟨rfl, rfl, rfl⟩ := trodAll_nil r1
  obtain rfl : args = #[v0, v1] := by cases args; simp_all
  obtain ⟨rfl, rfl⟩ := trodVars_none hV
  have lt0 : ∀ x ∈ p0, x.block < W.heap.size := by obtain ⟨m, hm⟩ := h0; exact DataW.trod_lt m _ _ _ hm
  obtain ⟨la0, n0, c0, X0, V0, rfl, hn0, hp0⟩ := open_puts (hval 0 22 v0 rfl rfl) h0
  have lt1 : ∀ x ∈ p1, x.block < W.heap.size := by obtain ⟨m, hm⟩ := h1; exact DataW.trod_lt m _ _ _ hm
  obtain ⟨la1, n1, c1, X1, V1, rfl, hn1, hp1⟩ := open_puts (hval 1 22 v1 rfl rfl) h1
  clear hA0 hval0
  refine (walk hn0 hp0 hn1 hp1).mono fun e W' ⟨he, bel⟩ => ?_
  subst he
  exact ⟨_, rfl, _, _, _, [], _, [], hW', trodAll_mk1 (shut_bool Try.underlying4 _), (trodAll_cons_mk (Below.trod laidOut (by kernel_rfl) (of_decide_eq_true (by kernel_rfl)) h0 bel lt0) (trodAll_cons_mk (Below.trod laidOut (by kernel_rfl) (of_decide_eq_true (by kernel_rfl)) h1 bel lt1) trodAll_mk0)), rfl, bel.frame _, fun h => by cases h⟩

theorem over : Rows.txAppliesRow.holds Try.pinned (OpenSpec.ofChange Rows.txAppliesSpec) :=
  OpenClaim.holds_of_wide 4 Try.f4 rfl rfl rfl rfl rfl rfl rfl ⟨rfl, rfl, rfl, rfl, rfl⟩ rfl rfl rfl rfl rfl (by kernel_rfl) Try.func4 (by kernel_rfl)
    (of_decide_eq_true (by kernel_rfl)) (by unfold Func.isWrapper; first | (rw [if_pos (by decide +kernel)]; kernel_rfl) | (rw [if_neg (by decide +kernel)]; exact ⟨rfl, rfl⟩))
    (fun os started H enc _ => lifted os started H enc)

theorem proved : Rows.TxAppliesSaid :=
  over
#print axioms proved


end Go.Proofs.Ytinkfichgknifaa.txApplies
