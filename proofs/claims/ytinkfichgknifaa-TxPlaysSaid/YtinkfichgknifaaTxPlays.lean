/-
  Whatever words stand in a segment, and are thought of: any word, as it is, and as it is thought of, all that are thought of, and the segment, that is as it was. The statement TxPlays, for every two lists of pairs, and every offset; no condition.
-/
import Derived.Test.YtinkfichgknifaaTxMath
import Derived.Test.YtinkfichgknifaaPutO
namespace Go.Proofs.Ytinkfichgknifaa.txPlays
open Go.ChangeShapes Go.WideShapes Go.ChangeAt Go.RowKit
set_option linter.unusedVariables false
set_option linter.unusedSimpArgs false

set_option maxRecDepth 100000 in
set_option maxHeartbeats 8000000 in
theorem walk_core {la : Option Addr} {n c : Nat} {X V : Nat → Nat} (hn : n ≤ maxLen) {w : World} (hp : PutsAt w la n X V) {la2 : Option Addr} {n2 c2 : Nat} {X2 V2 : Nat → Nat} (hn2 : n2 ≤ maxLen) (hp2 : PutsAt w la2 n2 X2 V2) (off : Nat) (ho : off < 18446744073709551616) :
    Calls Try.prog 3 #[.slice la n c, .slice la2 n2 c2, .int .u64 off] w fun e w' => e = .returned (.bool true) ∧ w.grownBy w' none := by
  have hth := fun (w1 : World) (hg1 : w.grownBy w1 none) => thought_any (c := c) (c2 := c2) (hp.later hg1) hn (hp2.later hg1) hn2
  have hfi := fun (w1 : World) (hg1 : w.grownBy w1 none) => filled_ten (c := c) (hp.later hg1) hn
  have hten := ten_len X V (min n 40)
  obtain ⟨ws, hws⟩ : ∃ ws, ten X V (min n 40) = ws := ⟨_, rfl⟩
  rw [hws] at hth hfi hten
  have hok := thinkL_ok (ws := ws) (X := X2) (fun i => (hp2.lt i).2) (min n2 40)
  obtain ⟨l, hl⟩ : ∃ l, thinkL ws X2 V2 (min n2 40) = l := ⟨_, rfl⟩
  rw [hl] at hth hok
  clear hws hl
  have hl10 : l.length ≤ 10 := by have := hok.len; omega
  have hwl : ws.length ≤ 131072 := by omega
  have hsize := fun (w : World) (T M : Nat) (R : Option Nat) (B D : Nat) (h : Thinks w T M R B D ws l) => txsize_any h
  rw [show 8 * ws.length = 80 by omega] at hsize
  have hbl := fun (w : World) (T M : Nat) (R : Option Nat) (B D : Nat) (h : Thinks w T M R B D ws []) => txload_any h off ho
  rw [show txSee ws [] off = getW ws off from rfl] at hbl
  clear hten hok
  go_enter Try.func3, Try.ntmps3
  go_wp2_with (first | (go_at_call 9; ((with_reducible refine (awake3 _).mono ?_); rintro e w1 ⟨rfl, hg1⟩)) | (go_at_call 10; ((with_reducible refine (hth _ hg1).mono ?_); rintro e w2 ⟨B, D, T, M, R, wv, pv, rfl, hT, hrt, hap⟩; obtain ⟨wa, wn, wc, hwv⟩ := wv_form hrt.words; subst hwv; obtain ⟨pa, pn, pc, hpv⟩ := pv_form hrt.puts; subst hpv; have hg8 : w2.grownBy (w2.alloc (.cells #[.slice wa wn wc, .slice pa pn pc] 29)) none := World.grownBy_alloc _ _ _; have hT8 := hT.later hg8; have hrt8 := hrt.later hg8)) | (go_at_call 11; ((with_reducible refine (hfi _ (grown_trans hg1 hT8.since)).mono ?_); rintro e w3 ⟨B2, D2, wv2, rfl, R2, hs2, _, _⟩; obtain ⟨va, vn, vc, hwv2⟩ := wv_form R2.own; subst hwv2; have hT3 := hT8.later R2.grown; have hg3 := R2.grown)) | (go_at_call 12; ((with_reducible refine (txbare_any hT3.tx).mono ?_); rintro e w4 ⟨rfl, hg4, hb4⟩)))
  have T4 := hT3.later hg4
  have hg84 := grown_trans hg3 hg4
  have RT4 := hrt8.later hg84
  have S4 := hs2.later hg4
  have hblk : ∀ {wr : World}, w4.grownBy wr none → wr.heap[w2.heap.size]? = some (.cells #[.slice wa wn wc, .slice pa pn pc] 29 (0, 0)) := fun {wr} hg => by
    have h8 := heap_alloc_new' w2 (.cells #[.slice wa wn wc, .slice pa pn pc] 29)
    exact ((grown_trans hg84 hg).block _ (lt_of_block h8) (by simp)).trans h8
  have hcell : ∀ {wr : World}, wr.heap[w2.heap.size]? = some (.cells #[.slice wa wn wc, .slice pa pn pc] 29 (0, 0)) → wr.cell? ⟨w2.heap.size, 0, none⟩ = some (.slice wa wn wc) ∧ wr.cell? ⟨w2.heap.size, 1, none⟩ = some (.slice pa pn pc) := fun {wr} this => ⟨by simp [World.cell?, this], by simp [World.cell?, this]⟩
  clear hg3 hg8 hT8 hrt8 hrt hth hfi hs2 R2 hT3
  obtain ⟨c0, c1⟩ := hcell (hblk (grown_drew (grown_refl w4 none)))
  have HG : w4.grownBy w4.drew none := grown_drew (grown_refl _ _)
  generalize hbx : w2.heap.size = bx at *
  go_region_held3 (fun w' => w'.cell? ⟨bx, 0, none⟩ = some (.slice wa wn wc) ∧ w'.cell? ⟨bx, 1, none⟩ = some (.slice pa pn pc)) (go_keep)
    (first | (go_at_call 13; ((with_reducible refine (hbl _ _ _ _ _ _ (hb4.later HG)).mono ?_); rintro e w9 ⟨rfl, hg9⟩; replace HG := grown_trans HG hg9; obtain ⟨m0, m1⟩ := hcell (hblk HG))) | (go_at_call 13; ((with_reducible refine (txload_any (T4.later HG).tx off ho).mono ?_); rintro e w9 ⟨rfl, hg9⟩; replace HG := grown_trans HG hg9; obtain ⟨m0, m1⟩ := hcell (hblk HG))) | (go_at_call 14; ((with_reducible refine (rold_any (RT4.later HG) hwl off ho).mono ?_); rintro e w9 ⟨rfl, hg9⟩; replace HG := grown_trans HG hg9; obtain ⟨m0, m1⟩ := hcell (hblk HG))) | (go_at_call 16; ((with_reducible refine (rtxload_any (RT4.later HG) hwl (by omega) off ho).mono ?_); rintro e w9 ⟨rfl, hg9⟩; replace HG := grown_trans HG hg9; obtain ⟨m0, m1⟩ := hcell (hblk HG))) | (go_at_call 17; ((with_reducible refine (txold_any (T4.later HG).tx off ho).mono ?_); rintro e w9 ⟨rfl, hg9⟩; replace HG := grown_trans HG hg9; obtain ⟨m0, m1⟩ := hcell (hblk HG))) | (go_at_call 15; ((with_reducible refine (txputs_any (hb4.later HG)).mono ?_); rintro e w9 ⟨v9, rfl, ho9, hg9⟩; replace HG := grown_trans HG hg9; obtain ⟨m0, m1⟩ := hcell (hblk HG); obtain ⟨a9, c9, _, hv9, _⟩ := ho9.addr; subst hv9)) | (go_at_call 15; ((with_reducible refine (txputs_any (T4.later HG).tx).mono ?_); rintro e w11 ⟨v11, rfl, ho11, hg11⟩; replace HG := grown_trans HG hg11; obtain ⟨m0, m1⟩ := hcell (hblk HG))) | (go_at_call 18; ((with_reducible refine (rsame_any ho11 (RT4.later HG).puts (by omega)).mono ?_); rintro e w12 ⟨rfl, hg12⟩; replace HG := grown_trans HG hg12; obtain ⟨m0, m1⟩ := hcell (hblk HG))) | (go_at_call 19; ((with_reducible refine (diff_none (T4.later HG).tx.seg (S4.later HG)).mono ?_); rintro e w12 ⟨a12, c12, rfl, hg12⟩; replace HG := grown_trans HG hg12; obtain ⟨m0, m1⟩ := hcell (hblk HG))) | (go_at_call 20; ((with_reducible refine (hsize _ _ _ _ _ _ (T4.later HG).tx).mono ?_); rintro e w12 ⟨rfl, rfl⟩)))
  have hend := grown_trans hg1 (grown_trans T4.since HG)
  go_wp2
  go_ret
  exact ⟨ret_bool' rfl, hend⟩
theorem walk {la : Option Addr} {n c : Nat} {X V : Nat → Nat} (hn : n ≤ maxLen) {w : World} (hp : PutsAt w la n X V) {la2 : Option Addr} {n2 c2 : Nat} {X2 V2 : Nat → Nat} (hn2 : n2 ≤ maxLen) (hp2 : PutsAt w la2 n2 X2 V2) (a : Int) (wa : (Lit.int .u64 a).wf = true) :
    Calls Try.prog 3 #[.slice la n c, .slice la2 n2 c2, .int .u64 a] w fun e w' => e = .returned (.bool true) ∧ Below w.heap.size w w' := by
  have b0 := bounds_u64 wa
  obtain ⟨off, rfl⟩ := Int.eq_ofNat_of_zero_le b0.1
  exact (walk_core hn hp hn2 hp2 off (by omega)).mono fun e w' ⟨h1, h2⟩ => ⟨h1, grown_below h2⟩

theorem laidOut : laidOutB Try.prog = true := by kernel_rfl
/-! ### The row's step: the guide's frame -/
theorem own : ownKnob Try.prog.godebug = none := by kernel_rfl
set_option maxRecDepth 100000 in
theorem lifted (os : Os) (started : os.Started) (H : Type) (enc : TypeId × Value → H) :
    ReturnsInHanded {} Try.checked os 3 .any (Rows.txPlaysSpec.pre6 enc Try.prog Try.f3 Rows.txPlaysRow.domain false) (Rows.txPlaysSpec.post enc Try.prog Try.f3 false true false false) := by
  refine returnsInHanded_of_change (C := Try.checked) own started (by kernel_rfl) Try.func3
    (ChangeSpec.witness6 (enc := enc) (C := Try.checked) false ⟨#[], #[.slice none 0 0, .slice none 0 0, .int .u64 0], []⟩ 8 (by kernel_rfl) (by kernel_rfl) (by kernel_rfl) (by kernel_rfl)) ?_
  intro W base args ds gs before hval0 hW hcnd _
  have hval : ∀ (j : Nat) t v, Try.f3.params[j]? = some t → args[j]? = some v → Value.okWide Try.prog W .any base t v := hval0
  have hW' := hW
  obtain ⟨p, q, hA0, hV, rfl, hfz, hnd⟩ := hW
  have hA : DataW.TrodAll enc Try.prog W 0 (fun _ => true) true Try.f3.params.toList args.toList ds p := hA0
  rw [Try.params3] at hA hval
  obtain ⟨v0, vs0, d0, ds0, p0, q0, hargs, rfl, rfl, h0, r0⟩ := trodAll_cons hA
  obtain ⟨v1, vs1, d1, ds1, p1, q1, rfl, rfl, rfl, h1, r1⟩ := trodAll_cons r0
  obtain ⟨v2, vs2, d2, ds2, p2, q2, rfl, rfl, rfl, h2, r2⟩ := trodAll_cons r1
  obtain ⟨rfl, rfl, rfl⟩ := trodAll_nil r2
  obtain rfl : args = #[v0, v1, v2] := by cases args; simp_all
  obtain ⟨rfl, rfl⟩ := trodVars_none hV
  have lt0 : ∀ x ∈ p0, x.block < W.heap.size := by obtain ⟨m, hm⟩ := h0; exact DataW.trod_lt m _ _ _ hm
  obtain ⟨la0, n0, c0, X0, V0, rfl, hn0, hp0⟩ := open_puts (hval 0 22 v0 rfl rfl) h0
  have lt1 : ∀ x ∈ p1, x.block < W.heap.size := by obtain ⟨m, hm⟩ := h1; exact DataW.trod_lt m _ _ _ hm
  obtain ⟨la1, n1, c1, X1, V1, rfl, hn1, hp1⟩ := open_puts (hval 1 22 v1 rfl rfl) h1
  obtain ⟨a2, rfl, rfl, rfl, w2⟩ := open_int Try.underlying23 (hval 2 23 v2 rfl rfl) h2
  clear hA0 hval0
  refine (walk hn0 hp0 hn1 hp1 a2 w2).mono fun e W' ⟨he, bel⟩ => ?_
  subst he
  exact ⟨_, rfl, _, _, _, [], _, [], hW', trodAll_mk1 (shut_bool Try.underlying4 _), (trodAll_cons_mk (Below.trod laidOut (by kernel_rfl) (of_decide_eq_true (by kernel_rfl)) h0 bel lt0) (trodAll_cons_mk (Below.trod laidOut (by kernel_rfl) (of_decide_eq_true (by kernel_rfl)) h1 bel lt1) (trodAll_cons_mk (shut_int Try.underlying23 w2) trodAll_mk0))), rfl, bel.frame _, fun h => by cases h⟩

theorem over : Rows.txPlaysRow.holds Try.pinned (OpenSpec.ofChange Rows.txPlaysSpec) :=
  OpenClaim.holds_of_wide 3 Try.f3 rfl rfl rfl rfl rfl rfl rfl ⟨rfl, rfl, rfl, rfl, rfl⟩ rfl rfl rfl rfl rfl (by kernel_rfl) Try.func3 (by kernel_rfl)
    (of_decide_eq_true (by kernel_rfl)) (by unfold Func.isWrapper; first | (rw [if_pos (by decide +kernel)]; kernel_rfl) | (rw [if_neg (by decide +kernel)]; exact ⟨rfl, rfl⟩))
    (fun os started H enc _ => lifted os started H enc)

theorem proved : Rows.TxPlaysSaid :=
  over
#print axioms proved


end Go.Proofs.Ytinkfichgknifaa.txPlays
