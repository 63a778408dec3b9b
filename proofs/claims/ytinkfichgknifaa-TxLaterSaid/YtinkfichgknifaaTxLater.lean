/-
  What is stored in the segment is seen where nothing is thought of, and not where something is. The statement TxLater, for every list of pairs, and every pair; no condition.
-/
import Derived.Test.YtinkfichgknifaaTxMath
import Derived.Test.YtinkfichgknifaaPutO
namespace Go.Proofs.Ytinkfichgknifaa.txLater
open Go.ChangeShapes Go.WideShapes Go.ChangeAt Go.RowKit
set_option linter.unusedVariables false
set_option linter.unusedSimpArgs false

/-- what is seen behind the store -/
theorem see_put (ws : List Nat) (l : List (Nat × Nat)) (hok : TxOk ws l) (x y : Nat) :
    txSee (put ws x y) l x = if stands ws x then (if (txGet l x).isSome then txSee ws l x else y) else 0 := by
  by_cases hs : stands ws x
  · rw [if_pos hs]
    unfold txSee
    rcases e : txGet l x with _ | v
    · rw [if_neg (by simp)]
      show getW (put ws x y) x = y
      unfold getW
      have h1 : stands (put ws x y) x := by unfold stands at hs ⊢; rwa [put_len]
      rw [if_pos h1]
      unfold put
      rw [if_pos hs, List.getD_eq_getElem?_getD, List.getElem?_set_self (by have := hs.1; have := hs.2; omega)]
      rfl
    · rw [if_pos (by simp)]; rfl
  · rw [if_neg hs]
    have e : txGet l x = none := by
      rcases e : txGet l x with _ | v
      · rfl
      · exact absurd (hok.stand _ (txGet_mem e)) hs
    unfold txSee
    rw [e]
    show getW (put ws x y) x = 0
    unfold getW
    rw [if_neg]
    intro h
    unfold stands at h hs
    rw [put_len] at h
    exact hs h
set_option maxHeartbeats 2000000 in
theorem walk_core {la : Option Addr} {n c : Nat} {X V : Nat → Nat} (hn : n ≤ maxLen) {w : World} (hp : PutsAt w la n X V) (x y : Nat) (hx : x < 18446744073709551616) (hy : y < 18446744073709551616) :
    Calls Try.prog 7 #[.slice la n c, .agg #[.int .u64 x, .int .u64 y]] w fun e w' => e = .returned (.bool true) ∧ w.grownBy w' none := by
  have hg0 : w.grownBy (w.alloc (.cells #[.int .u64 (x : Nat), .int .u64 (y : Nat)] 47)) none := World.grownBy_alloc _ _ _
  have hp0 := PairAt.made w x y
  have hpn : ∀ w : World, PutsAt w none 0 (fun _ => 0) (fun _ => 0) := fun w => ⟨fun _ => ⟨by decide, by decide⟩, fun h => absurd h (Nat.not_lt_zero _)⟩
  have hth := fun (w1 : World) (hg1 : w.grownBy w1 none) => thought_any (c := 0) (c2 := c) (hpn w1) (by decide) (hp.later hg1) hn
  have hten := ten_len (fun _ => 0) (fun _ => 0) (min 0 40)
  obtain ⟨ws, hws⟩ : ∃ ws, ten (fun _ => 0) (fun _ => 0) (min 0 40) = ws := ⟨_, rfl⟩
  rw [hws] at hth hten
  have hok := thinkL_ok (ws := ws) (X := X) (fun i => (hp.lt i).2) (min n 40)
  obtain ⟨l, hl⟩ : ∃ l, thinkL ws X V (min n 40) = l := ⟨_, rfl⟩
  rw [hl] at hth hok
  clear hws hl
  have hsee := see_put ws l hok x y
  have hall := inB_all l x
  have herr : errW ws x = if stands ws x then 0 else 1 := rfl
  have hst := fun (w : World) (B D : Nat) (h : IsSeg w B D ws) => store_any h x y hx hy
  obtain ⟨E, hE⟩ : ∃ E, errW ws x = E := ⟨_, rfl⟩
  rw [hE] at hst herr
  have HSEE := Lib.hid hsee
  have HALL := Lib.hid hall
  have HERR := Lib.hid herr
  clear hE hsee hall herr
  go_enter Try.func7, Try.ntmps7
  go_wp2_with (first | (go_at_call 9; ((with_reducible refine (awake3 _).mono ?_); rintro e w1 ⟨rfl, hg1⟩; have hp1 := hp0.later hg1)) | (go_at_call 10; ((with_reducible refine (hth _ (grown_trans hg0 hg1)).mono ?_); rintro e w2 ⟨B, D, T, M, R, wv, pv, rfl, hT, hrt, hap⟩; obtain ⟨wa, wn, wc, hwv⟩ := wv_form hrt.words; subst hwv; obtain ⟨pa, pc, pg, hpv, hpa, hpc⟩ := hrt.puts.addr; subst hpv; have hg8 : w2.grownBy (w2.alloc (.cells #[.slice wa wn wc, .slice pa l.length pc] 29)) none := World.grownBy_alloc _ _ _; have hT8 := hT.later hg8; have hp8 := (hp1.later hT.since).later hg8; have k0 := hp8.c0; have k1 := hp8.c1)) | (go_at_call 28; ((with_reducible refine (hst _ _ _ hT8.tx.seg).mono ?_); rintro e w3 ⟨rfl, hg3, hs3⟩)))
  have hwD : w.heap.size ≠ D := by have := hp1.lt; have := hT.newD; omega
  have hbD : w2.heap.size ≠ D := by have := hT.tx.seg.ltD; omega
  have T3 := hT8.seg_store hg3 hs3 (put_len _ _ _)
  have P3 := hp8.kept hg3 (by simpa using hwD.symm)
  have hb3 : w3.heap[w2.heap.size]? = some (.cells #[.slice wa wn wc, .slice pa l.length pc] 29 (0, 0)) := (hg3.block _ (by simp) (by simpa using hbD)).trans (heap_alloc_new' _ _)
  have RT3 : RTx w3 w1.heap.size (.slice wa wn wc) (.slice pa l.length pc) ws l := ⟨OwnW.past_seg hT8.tx.seg hg3 (hrt.words.later hg8), OwnP.past_seg hT8.tx.seg hg3 (hrt.puts.later hg8)⟩
  have hpc3 := fun (wr : World) (hg : w3.grownBy wr none) => hpc wr (RT3.puts.later hg)
  have hl10 : l.length ≤ 10 := by have := hok.len; omega
  have HB := Lib.hid hb3
  have HPA := Lib.hid hpa
  have hwsl : ws.length ≤ 131072 := by omega
  clear hb3 hpa hpc hg3 hs3 hst hT8 hp8 k0 k1 hth hrt
  generalize hbx : w2.heap.size = bx at *
  generalize hbp : w.heap.size = bp at *
  go_loopw [10, 11] (fun b i wr => ∃ (k : Nat) (v : Bool), k ≤ l.length ∧ i = .int .i64 k ∧ b = .bool v ∧ Hid (inB l x k = v) ∧ w3.grownBy wr none) (fun _ i _ => l.length - (intOf i).toNat)
  case atStart => exact ⟨0, false, Nat.zero_le _, rfl, rfl, Lib.hid rfl, grown_refl _ _⟩
  case round =>
    obtain ⟨k, v, hk, rfl, rfl, HV, hgr⟩ := hrel
    have hbr := (hgr.block _ (lt_of_block HB.out) (by simp)).trans HB.out
    have c0 : wr.cell? ⟨bx, 0, none⟩ = some (.slice wa wn wc) := by simp [World.cell?, hbr]
    have c1 : wr.cell? ⟨bx, 1, none⟩ = some (.slice pa l.length pc) := by simp [World.cell?, hbr]
    have Pr := P3.later hgr
    have p0 := Pr.c0
    have p1 := Pr.c1
    clear hbr
    rcases Nat.lt_or_ge k l.length with h1 | h1
    · obtain ⟨k0, k1⟩ := hpc3 _ hgr k h1
      have ea := HPA.out (by omega)
      subst ea
      have hstep := inB_step l x k
      rw [HV.out] at hstep
      have HS := Lib.hid hstep
      clear hstep
      cases v with
      | true =>
        go_wp2
        go_quiet (fail)
        go_wp2
        go_roundw
        case rel => exact ⟨k + 1, true, by omega, by go_num, rfl, Lib.hid (by rw [HS.out]; rfl), grown_trans hgr (grown_drewN _ _)⟩
        case measure => simp [intOf]; omega
      | false =>
        have hval : ((txX l k : Int) == (x : Int)) = (txX l k == x) := by
          by_cases e : txX l k = x
          · rw [e]; simp
          · rw [beq_eq_false_iff_ne.2 e, beq_eq_false_iff_ne.2 (by omega)]
        have HVAL := Lib.hid hval
        clear hval
        go_wp2
        go_quiet (fail)
        go_wp2
        go_roundw
        case rel => exact ⟨k + 1, _, by omega, by go_num, rfl, Lib.hid (by rw [HS.out, HVAL.out]; rfl), grown_trans hgr (grown_drewN _ _)⟩
        case measure => simp [intOf]; omega
    · obtain rfl : k = l.length := by omega
      have hv : (txGet l x).isSome = v := by rw [← HALL.out]; exact HV.out
      have hsee := HSEE.out
      rw [hv] at hsee
      have HG := hgr
      have hend : ∀ {w9 : World}, w3.grownBy w9 none → w.grownBy w9 none := fun h => grown_trans (grown_trans (grown_trans hg0 hg1) T3.since) h
      have hrl := fun (w4 : World) (hg : w3.grownBy w4 none) => rtxload_any (RT3.later hg) hwsl (by omega) x hx
      have hld := fun (w4 : World) (hg : w3.grownBy w4 none) => txload_any (T3.later hg).tx x hx
      by_cases hs : stands ws x
      · have hE := HERR.out
        rw [if_pos hs] at hE hsee
        subst hE
        rw [hsee] at hld
        cases v with
        | true =>
          simp only [if_pos] at hld
          clear hs hsee hv hpc3
          go_wp2_with (first | (go_at_call 16; refine (hrl _ HG).mono ?_; rintro e w5 ⟨rfl, hg5⟩; replace HG := grown_trans HG hg5; have m0 := (P3.later HG).c0) | (go_at_call 13; refine (hld _ HG).mono ?_; rintro e w6 ⟨rfl, hg6⟩; replace HG := grown_trans HG hg6))
          go_ret
          exact ⟨ret_bool' (by simp), hend HG⟩
        | false =>
          simp only [Bool.false_eq_true, if_false] at hld
          clear hs hsee hv hpc3
          go_wp2_with (first | (go_at_call 13; refine (hld _ HG).mono ?_; rintro e w6 ⟨rfl, hg6⟩; replace HG := grown_trans HG hg6))
          go_ret
          exact ⟨ret_bool' (by simp), hend HG⟩
      · have hE := HERR.out
        rw [if_neg hs] at hE hsee
        subst hE
        rw [hsee] at hld
        cases v with
        | true =>
          clear hs hsee hv hpc3
          go_wp2_with (first | (go_at_call 16; refine (hrl _ HG).mono ?_; rintro e w5 ⟨rfl, hg5⟩; replace HG := grown_trans HG hg5; have m0 := (P3.later HG).c0) | (go_at_call 13; refine (hld _ HG).mono ?_; rintro e w6 ⟨rfl, hg6⟩; replace HG := grown_trans HG hg6))
          go_ret
          exact ⟨ret_bool' (by simp), hend HG⟩
        | false =>
          clear hs hsee hv hpc3
          go_wp2_with (first | (go_at_call 13; refine (hld _ HG).mono ?_; rintro e w6 ⟨rfl, hg6⟩; replace HG := grown_trans HG hg6))
          go_ret
          exact ⟨ret_bool' (by simp), hend HG⟩
theorem walk {la : Option Addr} {n c : Nat} {X V : Nat → Nat} (hn : n ≤ maxLen) {w : World} (hp : PutsAt w la n X V) (x y : Nat) (hx : x < 18446744073709551616) (hy : y < 18446744073709551616) :
    Calls Try.prog 7 #[.slice la n c, .agg #[.int .u64 x, .int .u64 y]] w fun e w' => e = .returned (.bool true) ∧ Below w.heap.size w w' :=
  (walk_core hn hp x y hx hy).mono fun e w' ⟨h1, h2⟩ => ⟨h1, grown_below h2⟩

theorem laidOut : laidOutB Try.prog = true := by kernel_rfl
/-! ### The row's step: the guide's frame -/
theorem own : ownKnob Try.prog.godebug = none := by kernel_rfl
set_option maxRecDepth 100000 in
theorem lifted (os : Os) (started : os.Started) (H : Type) (enc : TypeId × Value → H) :
    ReturnsInHanded {} Try.checked os 7 .any (Rows.txLaterSpec.pre6 enc Try.prog Try.f7 Rows.txLaterRow.domain false) (Rows.txLaterSpec.post enc Try.prog Try.f7 false true false false) := by
  refine returnsInHanded_of_change (C := Try.checked) own started (by kernel_rfl) Try.func7
    (ChangeSpec.witness6 (enc := enc) (C := Try.checked) false ⟨#[], #[.slice none 0 0, .agg #[.int .u64 0, .int .u64 0]], []⟩ 8 (by kernel_rfl) (by kernel_rfl) (by kernel_rfl) (by kernel_rfl)) ?_
  intro W base args ds gs before hval0 hW hcnd _
  have hval : ∀ (j : Nat) t v, Try.f7.params[j]? = some t → args[j]? = some v → Value.okWide Try.prog W .any base t v := hval0
  have hW' := hW
  obtain ⟨p, q, hA0, hV, rfl, hfz, hnd⟩ := hW
  have hA : DataW.TrodAll enc Try.prog W 0 (fun _ => true) true Try.f7.params.toList args.toList ds p := hA0
  rw [Try.params7] at hA hval
  obtain ⟨v0, vs0, d0, ds0, p0, q0, hargs, rfl, rfl, h0, r0⟩ := trodAll_cons hA
  obtain ⟨v1, vs1, d1, ds1, p1, q1, rfl, rfl, rfl, h1, r1⟩ := trodAll_cons r0
  obtain ⟨rfl, rfl, rfl⟩ := trodAll_nil r1
  obtain rfl : args = #[v0, v1] := by cases args; simp_all
  obtain ⟨rfl, rfl⟩ := trodVars_none hV
  have lt0 : ∀ x ∈ p0, x.block < W.heap.size := by obtain ⟨m, hm⟩ := h0; exact DataW.trod_lt m _ _ _ hm
  obtain ⟨la0, n0, c0, X0, V0, rfl, hn0, hp0⟩ := open_puts (hval 0 22 v0 rfl rfl) h0
  have lt1 : ∀ x ∈ p1, x.block < W.heap.size := by obtain ⟨m, hm⟩ := h1; exact DataW.trod_lt m _ _ _ hm
  obtain ⟨x1, y1, rfl, hx1, hy1⟩ := open_put (hval 1 47 v1 rfl rfl) h1
  clear hA0 hval0
  refine (walk hn0 hp0 x1 y1 hx1 hy1).mono fun e W' ⟨he, bel⟩ => ?_
  subst he
  exact ⟨_, rfl, _, _, _, [], _, [], hW', trodAll_mk1 (shut_bool Try.underlying4 _), (trodAll_cons_mk (Below.trod laidOut (by kernel_rfl) (of_decide_eq_true (by kernel_rfl)) h0 bel lt0) (trodAll_cons_mk (Below.trod laidOut (by kernel_rfl) (of_decide_eq_true (by kernel_rfl)) h1 bel lt1) trodAll_mk0)), rfl, bel.frame _, fun h => by cases h⟩

theorem over : Rows.txLaterRow.holds Try.pinned (OpenSpec.ofChange Rows.txLaterSpec) :=
  OpenClaim.holds_of_wide 7 Try.f7 rfl rfl rfl rfl rfl rfl rfl ⟨rfl, rfl, rfl, rfl, rfl⟩ rfl rfl rfl rfl rfl (by kernel_rfl) Try.func7 (by kernel_rfl)
    (of_decide_eq_true (by kernel_rfl)) (by unfold Func.isWrapper; first | (rw [if_pos (by decide +kernel)]; kernel_rfl) | (rw [if_neg (by decide +kernel)]; exact ⟨rfl, rfl⟩))
    (fun os started H enc _ => lifted os started H enc)

theorem proved : Rows.TxLaterSaid :=
  over
#print axioms proved


end Go.Proofs.Ytinkfichgknifaa.txLater
