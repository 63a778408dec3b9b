/-
  Each offset is told once, and just those that are told may be otherwise, when they are applied. The statement TxOnce, for every two lists of pairs; no condition.
-/
import Derived.Test.YtinkfichgknifaaTxMath
import Derived.Test.YtinkfichgknifaaSegG
import Derived.Test.YtinkfichgknifaaPutO
namespace Go.Proofs.Ytinkfichgknifaa.txOnce
open Go.ChangeShapes Go.WideShapes Go.ChangeAt Go.RowKit
set_option linter.unusedVariables false
set_option linter.unusedSimpArgs false

/-- What stands behind the calls. -/
structure Once (W : World) (T M : Nat) (R : Option Nat) (B D : Nat) (wz : List Nat) (l : List (Nat × Nat)) (p d : Value) (dl : List Nat) (b1 b2 : Nat) : Prop where
  tx : Thinks W T M R B D wz l
  puts : OwnP W b1 p l
  diff : OwnW W b2 d dl
theorem Once.later {W W' : World} {T M : Nat} {R : Option Nat} {B D : Nat} {wz : List Nat} {l : List (Nat × Nat)} {p d : Value} {dl : List Nat} {b1 b2 : Nat} (h : Once W T M R B D wz l p d dl b1 b2) (hg : W.grownBy W' none) : Once W' T M R B D wz l p d dl b1 b2 :=
  ⟨h.tx.later hg, h.puts.later hg, h.diff.later hg⟩
set_option maxRecDepth 100000 in
set_option maxHeartbeats 4000000 in
theorem walk_core {la : Option Addr} {n c : Nat} {X V : Nat → Nat} (hn : n ≤ maxLen) {w : World} (hp : PutsAt w la n X V) {la2 : Option Addr} {n2 c2 : Nat} {X2 V2 : Nat → Nat} (hn2 : n2 ≤ maxLen) (hp2 : PutsAt w la2 n2 X2 V2) :
    Calls Try.prog 5 #[.slice la n c, .slice la2 n2 c2] w fun e w' => e = .returned (.bool true) ∧ w.grownBy w' none := by
  have hth := fun (w1 : World) (hg1 : w.grownBy w1 none) => thought_any (c := c) (c2 := c2) (hp.later hg1) hn (hp2.later hg1) hn2
  have hten := ten_len X V (min n 40)
  obtain ⟨ws, hws⟩ : ∃ ws, ten X V (min n 40) = ws := ⟨_, rfl⟩
  rw [hws] at hth hten
  have hok := thinkL_ok (ws := ws) (X := X2) (fun i => (hp2.lt i).2) (min n2 40)
  obtain ⟨l, hl⟩ : ∃ l, thinkL ws X2 V2 (min n2 40) = l := ⟨_, rfl⟩
  rw [hl] at hth hok
  clear hws hl
  have hl10 : l.length ≤ 10 := by have := hok.len; omega
  have hap1 := fun (w : World) (T M : Nat) (R : Option Nat) (B D : Nat) (h : Thinks w T M R B D ws l) => txapply_any h
  have hdl := diff_apply hok (max ws.length (txApply ws l).length)
  obtain ⟨wz, hwz⟩ : ∃ wz, txApply ws l = wz := ⟨_, rfl⟩
  have hsee := fun (i : Nat) (hi : i < l.length) => see_apply hok wz hi
  have hok' : TxOk wz l := by rw [← hwz]; exact hok.apply
  rw [hwz] at hap1 hdl
  obtain ⟨dl, hdle⟩ : ∃ dl, diffL ws wz (max ws.length wz.length) = dl := ⟨_, rfl⟩
  rw [hdle] at hdl
  have hdf := fun (w : World) (B D B' D' : Nat) (h : IsSeg w B D ws) (h' : IsSeg w B' D' wz) => (diff_any (.inr ⟨B, D, rfl, h⟩) (.inr ⟨B', D', rfl, h'⟩) : Calls Try.prog 19 #[.pointer (some ⟨B, 0, none⟩), .pointer (some ⟨B', 0, none⟩)] w (DiffPost w ws wz))
  have HDL := Lib.hid hdle
  have HDK := Lib.hid hdl.1
  have hdlen := hdl.2
  have hXl := fun k => hok.lt (ws := ws) (by omega) k
  have hap := fun (i j : Nat) (hi : i < l.length) (hj : j < i) => hok.apart hi hj
  clear hwz hdl hdle
  go_enter Try.func5, Try.ntmps5
  go_wp2_with (first | (go_at_call 9; ((with_reducible refine (awake3 _).mono ?_); rintro e w1 ⟨rfl, hg1⟩)) | (go_at_call 10; ((with_reducible refine (hth _ hg1).mono ?_); rintro e w2 ⟨B, D, T, M, R, wv, pv, rfl, hT, hrt, hap0⟩; obtain ⟨wa, wn, wc, hwv⟩ := wv_form hrt.words; subst hwv; obtain ⟨pa, pn, pc, hpv⟩ := pv_form hrt.puts; subst hpv; have hg8 : w2.grownBy (w2.alloc (.cells #[.slice wa wn wc, .slice pa pn pc] 29)) none := World.grownBy_alloc _ _ _; have hT8 := hT.later hg8)) | (go_at_call 25; ((with_reducible refine (copy_yes hT8.tx.seg).mono ?_); rintro e w3 ⟨rfl, hg3, hs3⟩; simp only [World.size_alloc] at hs3; have hT3 := hT8.later hg3)) | (go_at_call 15; ((with_reducible refine (txputs_any hT3.tx).mono ?_); rintro e w4 ⟨v4, rfl, ho4, hg4⟩; have hT4 := hT3.later hg4; have hs4 := hs3.later hg4; obtain ⟨pa4, pc4, pg4, hv4, hpa4, hpc4⟩ := ho4.addr; subst hv4)) | (go_at_call 21; ((with_reducible refine (hap1 _ _ _ _ _ _ hT4.tx).mono ?_); rintro e w5 ⟨rfl, hg5, ht5⟩; have hT5 := hT4.seg hg5 ht5; have ho5 := OwnP.past_seg hT4.tx.seg hg5 ho4; have hs5 := hs4.kept hg5 (by have := hT.tx.seg.ltD; simp; omega) (by have := hT.tx.seg.ltD; simp; omega))) | (go_at_call 19; ((with_reducible refine (hdf _ _ _ _ _ hs5 hT5.tx.seg).mono ?_); rintro e w6 ⟨v6, rfl, R6⟩; have ho6 := R6.words; rw [HDL.out] at ho6; obtain ⟨da, dc, dg, hv6, hda, hdc⟩ := OwnW.addr ho6; subst hv6; have hg6 := R6.grown)))
  have O6 : Once w6 T M R B D wz l _ _ dl _ _ := ⟨(hT5.later hg6).tx, ho5.later hg6, ho6⟩
  have hsince := grown_trans hg1 (hT5.later hg6).since
  have hpc6 := fun (wr : World) (hg : w6.grownBy wr none) => hpc4 wr (O6.later hg).puts
  have hdc6 := fun (wr : World) (hg : w6.grownBy wr none) => hdc wr (O6.later hg).diff
  have HDC := Lib.hid hdc6
  have HPA := Lib.hid hpa4
  have HDA := Lib.hid hda
  have hdl10 : dl.length ≤ 10 := Nat.le_trans hdlen hl10
  clear hdc6 hpa4 hda hpc4 hdc hth hap1 hdf ho4 ho5 ho6 hs3 hs4 hs5 hT8 hT3 hT4 hT5 hg3 hg4 hg5 hg6 R6 ht5 hg8 hrt
  generalize w2.heap.size = bx at *
  go_loopw [12] (fun i wr => ∃ k : Nat, k ≤ l.length ∧ i = .int .i64 k ∧ w6.grownBy wr none) (fun i _ => l.length - (intOf i).toNat)
  case atStart => exact ⟨0, Nat.zero_le _, rfl, grown_refl _ _⟩
  case round =>
    obtain ⟨k, hk, rfl, hgr⟩ := hrel
    rcases Nat.lt_or_ge k l.length with h1 | h1
    · have ea := HPA.out (by omega)
      subst ea
      obtain ⟨wo, hwo⟩ : ∃ wo : World, wo = wr := ⟨_, rfl⟩
      have hgo : w6.grownBy wo none := by rw [hwo]; exact hgr
      rw [← hwo]
      clear hwo hgr
      go_wp2
      go_loopw [13] (fun i wr => ∃ j : Nat, j ≤ k ∧ i = .int .i64 j ∧ w6.grownBy wr none) (fun i _ => k - (intOf i).toNat)
      case atStart => exact ⟨0, Nat.zero_le _, rfl, hgo⟩
      case round =>
        obtain ⟨j, hj, rfl, hgj⟩ := hrel
        rcases Nat.lt_or_ge j k with h2 | h2
        · obtain ⟨c1, c2⟩ := hpc6 _ hgj j (by omega)
          obtain ⟨d1, d2⟩ := hpc6 _ hgj k h1
          have hne : ((txX l j : Int) == (txX l k : Int)) = false := by
            have := hap k j h1 h2
            rw [beq_eq_false_iff_ne]
            omega
          have hjl : (j : Int) < l.length := by omega
          go_wp2
          go_quiet (fail)
          go_wp2
          exact ⟨⟨j + 1, by omega, by go_num, grown_trans hgj (grown_drewN _ _)⟩, by simp [intOf]; omega⟩
        · obtain rfl : j = k := by omega
          obtain ⟨d1, d2⟩ := hpc6 _ hgj j h1
          have HG : w6.grownBy wr.drew none := grown_trans hgj (grown_drew (grown_refl _ _))
          obtain ⟨e1, e2⟩ := hpc6 _ HG j h1
          have hld := fun (w : World) (hg : w6.grownBy w none) => txload_any (O6.later hg).tx (txX l j) (hXl j).1
          rw [hsee j h1] at hld
          go_wp2
          go_region_held3 (fun w' => w'.cell? ⟨pg4, j * 2, none⟩ = some (.int .u64 (txX l j : Nat)) ∧ w'.cell? ⟨pg4, j * 2 + 1, none⟩ = some (.int .u64 (txV l j : Nat))) (go_keep)
            (first | (go_at_call 13; refine (hld _ HG).mono ?_; rintro e w9 ⟨rfl, hg9⟩; replace HG := grown_trans HG hg9; obtain ⟨m0, m1⟩ := hpc6 _ HG j h1))
          go_wp2
          go_roundw
          case rel => exact ⟨j + 1, by omega, by go_num, HG⟩
          case measure => simp [intOf]; omega
    · obtain rfl : k = l.length := by omega
      obtain ⟨wo, hwo⟩ : ∃ wo : World, wo = wr := ⟨_, rfl⟩
      have hgo : w6.grownBy wo none := by rw [hwo]; exact hgr
      rw [← hwo]
      clear hwo hgr hsee hap
      go_wp2
      go_loopw [14] (fun i wr => ∃ m : Nat, m ≤ dl.length ∧ i = .int .i64 m ∧ w6.grownBy wr none) (fun i _ => dl.length - (intOf i).toNat)
      case atStart => exact ⟨0, Nat.zero_le _, rfl, hgo⟩
      case round =>
        obtain ⟨m, hm, rfl, hgm⟩ := hrel
        clear hgo
        rcases Nat.lt_or_ge m dl.length with h2 | h2
        · obtain ⟨x, hx⟩ : ∃ x, dl.getD m 0 = x := ⟨_, rfl⟩
          have hin : inB l x l.length = true := by
            rw [inB_all]
            exact HDK.out x (by rw [← hx]; exact getD_mem 0 h2)
          have HIN := Lib.hid hin
          have HX := Lib.hid hx
          have eda := HDA.out (by omega)
          subst eda
          have epa := HPA.out (by omega)
          subst epa
          obtain ⟨wo, hwo⟩ : ∃ wo : World, wo = wr := ⟨_, rfl⟩
          have hgo : w6.grownBy wo none := by rw [hwo]; exact hgm
          rw [← hwo]
          clear hwo hgm hin hx
          go_wp2
          go_loopw [15, 16] (fun b i wr => ∃ (j : Nat) (v : Bool), j ≤ l.length ∧ i = .int .i64 j ∧ b = .bool v ∧ Hid (inB l x j = v) ∧ w6.grownBy wr none) (fun _ i _ => l.length - (intOf i).toNat)
          case atStart => exact ⟨0, false, Nat.zero_le _, rfl, rfl, Lib.hid rfl, hgo⟩
          case round =>
            obtain ⟨j, v, hj, rfl, rfl, HV, hgj⟩ := hrel
            rcases Nat.lt_or_ge j l.length with h3 | h3
            · obtain ⟨c1, c2⟩ := hpc6 _ hgj j h3
              have d1 := HDC.out _ hgj m h2
              rw [HX.out] at d1
              have hstep := inB_step l x j
              rw [HV.out] at hstep
              have HS := Lib.hid hstep
              clear hstep
              cases v with
              | true =>
                go_wp2
                go_quiet (fail)
                go_wp2
                go_roundw
                case rel => exact ⟨j + 1, true, by omega, by go_num, rfl, Lib.hid (by rw [HS.out]; rfl), grown_trans hgj (grown_drewN _ _)⟩
                case measure => simp [intOf]; omega
              | false =>
                have hval : ((txX l j : Int) == (x : Int)) = (txX l j == x) := by
                  by_cases e : txX l j = x
                  · rw [e]; simp
                  · rw [beq_eq_false_iff_ne.2 e, beq_eq_false_iff_ne.2 (by omega)]
                have HVAL := Lib.hid hval
                clear hval
                go_wp2
                go_quiet (fail)
                go_wp2
                go_roundw
                case rel => exact ⟨j + 1, _, by omega, by go_num, rfl, Lib.hid (by rw [HS.out, HVAL.out]; rfl), grown_trans hgj (grown_drewN _ _)⟩
                case measure => simp [intOf]; omega
            · obtain rfl : j = l.length := by omega
              have hv : v = true := by rw [← HV.out]; exact HIN.out
              subst hv
              go_wp2
              go_roundw
              case rel => exact ⟨m + 1, by omega, by go_num, hgj⟩
              case measure => simp [intOf]; omega
        · obtain rfl : m = dl.length := by omega
          have hd1 : decide ((dl.length : Int) ≤ (l.length : Int)) = true := decide_eq_true (by omega)
          have hd2 : decide ((l.length : Int) ≤ 10) = true := decide_eq_true (by omega)
          have hd3 : decide (dl.length ≤ l.length) = true := decide_eq_true hdlen
          go_wp2
          go_ret
          exact ⟨ret_bool' rfl, grown_trans hsince hgm⟩
theorem walk {la : Option Addr} {n c : Nat} {X V : Nat → Nat} (hn : n ≤ maxLen) {w : World} (hp : PutsAt w la n X V) {la2 : Option Addr} {n2 c2 : Nat} {X2 V2 : Nat → Nat} (hn2 : n2 ≤ maxLen) (hp2 : PutsAt w la2 n2 X2 V2) :
    Calls Try.prog 5 #[.slice la n c, .slice la2 n2 c2] w fun e w' => e = .returned (.bool true) ∧ Below w.heap.size w w' :=
  (walk_core hn hp hn2 hp2).mono fun e w' ⟨h1, h2⟩ => ⟨h1, grown_below h2⟩

theorem laidOut : laidOutB Try.prog = true := by kernel_rfl
/-! ### The row's step: the guide's frame -/
theorem own : ownKnob Try.prog.godebug = none := by kernel_rfl
set_option maxRecDepth 100000 in
theorem lifted (os : Os) (started : os.Started) (H : Type) (enc : TypeId × Value → H) :
    ReturnsInHanded {} Try.checked os 5 .any (Rows.txOnceSpec.pre6 enc Try.prog Try.f5 Rows.txOnceRow.domain false) (Rows.txOnceSpec.post enc Try.prog Try.f5 false true false false) := by
  refine returnsInHanded_of_change (C := Try.checked) own started (by kernel_rfl) Try.func5
    (ChangeSpec.witness6 (enc := enc) (C := Try.checked) false ⟨#[], #[.slice none 0 0, .slice none 0 0], []⟩ 8 (by kernel_rfl) (by kernel_rfl) (by kernel_rfl) (by kernel_rfl)) ?_
  intro W base args ds gs before hval0 hW hcnd _
  have hval : ∀ (j : Nat) t v, Try.f5.params[j]? = some t → args[j]? = some v → Value.okWide Try.prog W .any base t v := hval0
  have hW' := hW
  obtain ⟨p, q, hA0, hV, rfl, hfz, hnd⟩ := hW
  have hA : DataW.TrodAll enc Try.prog W 0 (fun _ => true) true Try.f5.params.toList args.toList ds p := hA0
  rw [Try.params5] at hA hval
  obtain ⟨v0, vs0, d0, ds0, p0, q0, hargs, rfl, rfl, h0, r0⟩ := trodAll_cons hA
  obtain ⟨v1, vs1, d1, ds1, p1, q1, rfl, rfl, rfl, h1, r1⟩ := trodAll_cons r0
  obtain ⟨rfl, rfl, rfl⟩ := trodAll_nil r1
  obtain rfl : args = #[v0, v1] := by cases args; simp_all
  obtain ⟨rfl, rfl⟩ := trodVars_none hV
  have lt0 : ∀ x ∈ p0, x.block < W.heap.size := by obtain ⟨m, hm⟩ := h0; exact DataW.trod_lt m _ _ _ hm
  obtain ⟨la0, n0, c0, X0, V0, rfl, hn0, hp0⟩ := open_puts (hval 0 22 v0 rfl rfl) h0
  have lt1 : ∀ x ∈ p1, x.block < W.heap.size := by obtain ⟨m, hm⟩ := h1; exact DataW.trod_lt m _ _ _ hm
  obtain ⟨la1, n1, c1, X1, V1, rfl, hn1, hp1⟩ := open_puts (hval 1 22 v1 rfl rfl) h1
  clear hA0 hval0
  refine (walk hn0 hp0 hn1 hp1).mono fun e W' ⟨he, bel⟩ => ?_
  subst he
  exact ⟨_, rfl, _, _, _, [], _, [], hW', trodAll_mk1 (shut_bool Try.underlying4 _), (trodAll_cons_mk (Below.trod laidOut (by kernel_rfl) (of_decide_eq_true (by kernel_rfl)) h0 bel lt0) (trodAll_cons_mk (Below.trod laidOut (by kernel_rfl) (of_decide_eq_true (by kernel_rfl)) h1 bel lt1) trodAll_mk0)), rfl, bel.frame _, fun h => by cases h⟩

theorem over : Rows.txOnceRow.holds Try.pinned (OpenSpec.ofChange Rows.txOnceSpec) :=
  OpenClaim.holds_of_wide 5 Try.f5 rfl rfl rfl rfl rfl rfl rfl ⟨rfl, rfl, rfl, rfl, rfl⟩ rfl rfl rfl rfl rfl (by kernel_rfl) Try.func5 (by kernel_rfl)
    (of_decide_eq_true (by kernel_rfl)) (by unfold Func.isWrapper; first | (rw [if_pos (by decide +kernel)]; kernel_rfl) | (rw [if_neg (by decide +kernel)]; exact ⟨rfl, rfl⟩))
    (fun os started H enc _ => lifted os started H enc)

theorem proved : Rows.TxOnceSaid :=
  over
#print axioms proved


end Go.Proofs.Ytinkfichgknifaa.txOnce
