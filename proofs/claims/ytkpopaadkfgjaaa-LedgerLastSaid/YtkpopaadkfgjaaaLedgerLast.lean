/-
  Who came last stands first; gone again all is as it was. The statement LedgerLast, for all lists of pieces, all steps, and every number; no condition.
-/
import Derived.Test.YtkpopaadkfgjaaaLedR
namespace Go.Proofs.Ytkpopaadkfgjaaa.ledgerLast
open Go.ChangeShapes Go.WideShapes Go.ChangeAt Go.RowKit
set_option linter.unusedVariables false
set_option linter.unusedSimpArgs false
set_option maxRecDepth 100000

set_option maxHeartbeats 8000000 in
theorem core {w : World} {la lb : Option Addr} {n c m cm x : Nat} {A B C X Y : Nat → Nat} (hp : PiecesAt w la n A B C) (hc : n ≤ c) (hn : n ≤ maxLen) (hs : StepsAt w lb m X Y) (hm : m ≤ maxLen) (hx : x < 256) :
    Calls Try.prog 5 #[.slice la n c, .slice lb m cm, .int .u8 x] w fun e w' => e = .returned (.bool true) ∧ w.grownBy w' none := by
  have hla := fun (w1 : World) (hg : w.grownBy w1 none) => laid9_from (w := w1) (hp.later hg) hc hn (grown_refl w1 none)
  have hst := fun (w1 : World) (hg : w.grownBy w1 none) => hs.later hg
  obtain ⟨q, hq⟩ : ∃ q, x % 8 = q := ⟨_, rfl⟩
  have hq8 : q < 8 := by omega
  have e1 : (x : Int) % 8 = (q : Nat) := by omega
  clear hp hs
  go_enter Try.func5, Try.ntmps5
  go_wp2_with (first | (go_at_call 8; ((with_reducible refine (awake9 _).mono ?_); rintro e w1 ⟨rfl, hg1⟩)) | (go_at_call 12; ((with_reducible refine (hla _ hg1).mono ?_); rintro e w2 ⟨T, R, U, tg, fa, fc, rfl, G, _, hg2⟩; have hpl := plays_from (cm := cm) G (hst _ hg1) hm; have hup := G.pos; have hU := G.grid; have hU21 := G.few)) | (go_at_call 13; ((with_reducible refine hpl.mono ?_); rintro e w3 ⟨L, va, vc, rfl, P3⟩)))
  obtain ⟨W4, hW4⟩ : ∃ W4, w3.alloc (.cells #[.slice (va 0) (L 0).length (vc 0), .slice (va 1) (L 1).length (vc 1), .slice (va 2) (L 2).length (vc 2), .slice (va 3) (L 3).length (vc 3), .slice (va 4) (L 4).length (vc 4), .slice (va 5) (L 5).length (vc 5), .slice (va 6) (L 6).length (vc 6), .slice (va 7) (L 7).length (vc 7)] 38) = W4 := ⟨_, rfl⟩
  have R0 := P3.box G hg2
  have hfew := P3.few
  rw [hW4] at R0 ⊢
  obtain ⟨ob, hob⟩ : ∃ ob, w3.heap.size = ob := ⟨_, rfl⟩
  rw [hob] at R0 ⊢
  have hsn := grown_trans hg1 R0.since
  have hq9 := Lib.hid hq
  clear hla hst hpl P3 G hg2 hob hq hx
  have HF := Lib.hid hfew
  have HS := Lib.hid hg1
  have HU := Lib.hid hU
  clear hfew hsn hU
  go_wp2
  clear e1
  obtain ⟨N, hN⟩ : ∃ N, U.length = N := ⟨_, rfl⟩
  have HN := Lib.hid hN
  rw [hN] at hU21 hup ⊢
  clear hN
  go_loopw [13] (fun i wr => ∃ k : Nat, k ≤ N ∧ i = .int .i64 k ∧ Rd w1 T U tg ob w1.heap.size L L va vc fa fc wr) (fun i _ => N - (intOf i).toNat)
  case atStart => exact ⟨0, Nat.zero_le _, rfl, R0⟩
  case round =>
    obtain ⟨k, hk, rfl, RR⟩ := hrel
    clear R0
    by_cases hlt : k < N
    · have hlt' : (k : Int) < (N : Int) := by omega
      obtain ⟨ba, oa, rfl, hba, hca⟩ := RR.all.cells (by rw [HN.out]; omega)
      clear hca hba
      obtain ⟨z, hz⟩ : ∃ z, U.getD k 0 = z := ⟨_, rfl⟩
      have hzU : z ∈ U := by rw [← hz]; exact getD_in (by rw [HN.out]; exact hlt)
      have HZ := Lib.hid hz
      have HZU := Lib.hid hzU
      clear hz hzU
      go_wp2
      obtain ⟨wo, hwo⟩ : ∃ wo, wr = wo := ⟨_, rfl⟩
      rw [hwo] at RR ⊢
      clear hwo
      go_loopw [14, 15] (fun b i wq => ∃ j : Nat, j ≤ 8 ∧ i = .int .i64 j ∧ b = .bool (anyL L z j) ∧ wo.grownBy wq none) (fun _ i _ => 8 - (intOf i).toNat)
      case atStart => exact ⟨0, Nat.zero_le _, rfl, rfl, grown_refl _ _⟩
      case round =>
        obtain ⟨j, hj, rfl, rfl, hgq⟩ := hrel
        have RQ := RR.later hgq
        have u0 := RQ.at_ (k := k) (by rw [HN.out]; exact hlt)
        rw [HZ.out] at u0
        by_cases hj8 : j < 8
        · have hj8' : (j : Int) < 8 := by omega
          obtain ⟨cc, hwj, _⟩ := RQ.cell hj8
          have hlj : (L j).length ≤ 1000000 := by have := HF.out j; omega
          obtain ⟨nj, hnj⟩ : ∃ nj, (L j).length = nj := ⟨_, rfl⟩
          obtain ⟨aj, haj⟩ : ∃ aj, va j = aj := ⟨_, rfl⟩
          obtain ⟨cj, hcj⟩ : ∃ cj, vc j = cj := ⟨_, rfl⟩
          rw [haj] at hwj
          have hin := fun (w' : World) (hg : wr.grownBy w' none) => rin9_any (c := cj) (hwj.later hg) hnj (by omega) z
          rw [hnj, haj, hcj] at cc
          have HCL : Hid (∀ (w' : World), wr.grownBy w' none → w'.cell? ⟨ob, j, none⟩ = some (.slice aj nj cj) ∧ w'.cell? ⟨ba, oa + k, none⟩ = some (.int .u64 (z : Nat))) := Lib.hid fun w' hg => by
            have h1 := ((RQ.later hg).cell hj8).1
            have h2 := (RQ.later hg).at_ (k := k) (by rw [HN.out]; exact hlt)
            rw [hnj, haj, hcj] at h1
            rw [HZ.out] at h2
            exact ⟨h1, h2⟩
          obtain ⟨d, hd⟩ : ∃ d, decide (z ∈ L j) = d := ⟨_, rfl⟩
          rw [hd] at hin
          have hany : anyL L z (j + 1) = (anyL L z j || d) := by rw [← hd]; rfl
          have HANY := Lib.hid hany
          obtain ⟨bb, hbb⟩ : ∃ bb, anyL L z j = bb := ⟨_, rfl⟩
          rw [hbb] at HANY ⊢
          clear hbb hd hnj hlj hwj hany haj hcj
          cases bb with
          | true =>
            go_wp2
            refine wp_region_held_drew (S := fun _ => True) (by kernel_rfl) trivial (fun hHeld => ?_)
            refine held_yes 0 43 (v := ?_) rfl rfl (by kernel_rfl) (by kernel_rfl) (by kernel_rfl) (fun _ _ _ h => h) (by kernel_rfl) ?hy0 hHeld ?hr0
            case hy0 => (intro w hSw; (try dsimp only at hSw); go_simp; try (with_reducible rfl))
            case hr0 =>
            simp only [Act.put, List.setIfInBounds_toArray, List.set_cons_zero, List.set_cons_succ]
            refine held_yes 1 44 (v := ?_) rfl rfl (by kernel_rfl) (by kernel_rfl) (by kernel_rfl) (fun _ _ _ h => h) (by kernel_rfl) ?hy1 hHeld ?hr1
            case hy1 => (intro w hSw; (try dsimp only at hSw); go_simp; try (with_reducible rfl))
            case hr1 =>
            simp only [Act.put, List.setIfInBounds_toArray, List.set_cons_zero, List.set_cons_succ]
            refine held_skip 2 45 rfl rfl (by kernel_rfl) (by kernel_rfl) (by kernel_rfl) (fun _ _ _ h => h) (by kernel_rfl) hHeld ?_
            simp only [Act.put, List.setIfInBounds_toArray, List.set_cons_zero, List.set_cons_succ]
            refine held_skip 3 46 rfl rfl (by kernel_rfl) (by kernel_rfl) (by kernel_rfl) (fun _ _ _ h => h) (by kernel_rfl) hHeld ?_
            simp only [Act.put, List.setIfInBounds_toArray, List.set_cons_zero, List.set_cons_succ]
            refine held_skip 4 47 rfl rfl (by kernel_rfl) (by kernel_rfl) (by kernel_rfl) (fun _ _ _ h => h) (by kernel_rfl) hHeld ?_
            simp only [Act.put, List.setIfInBounds_toArray, List.set_cons_zero, List.set_cons_succ]
            refine held_skip 5 48 rfl rfl (by kernel_rfl) (by kernel_rfl) (by kernel_rfl) (fun _ _ _ h => h) (by kernel_rfl) hHeld ?_
            simp only [Act.put, List.setIfInBounds_toArray, List.set_cons_zero, List.set_cons_succ]
            refine held_skip 6 49 rfl rfl (by kernel_rfl) (by kernel_rfl) (by kernel_rfl) (fun _ _ _ h => h) (by kernel_rfl) hHeld ?_
            simp only [Act.put, List.setIfInBounds_toArray, List.set_cons_zero, List.set_cons_succ]
            refine held_skip 7 50 rfl rfl (by kernel_rfl) (by kernel_rfl) (by kernel_rfl) (fun _ _ _ h => h) (by kernel_rfl) hHeld ?_
            simp only [Act.put, List.setIfInBounds_toArray, List.set_cons_zero, List.set_cons_succ]
            refine held_skip 8 51 rfl rfl (by kernel_rfl) (by kernel_rfl) (by kernel_rfl) (fun _ _ _ h => h) (by kernel_rfl) hHeld ?_
            simp only [Act.put, List.setIfInBounds_toArray, List.set_cons_zero, List.set_cons_succ]
            refine held_skip 9 52 rfl rfl (by kernel_rfl) (by kernel_rfl) (by kernel_rfl) (fun _ _ _ h => h) (by kernel_rfl) hHeld ?_
            simp only [Act.put, List.setIfInBounds_toArray, List.set_cons_zero, List.set_cons_succ]
            refine held_yes 10 53 (v := ?_) rfl rfl (by kernel_rfl) (by kernel_rfl) (by kernel_rfl) (fun _ _ _ h => h) (by kernel_rfl) ?hy10 hHeld ?hr10
            case hy10 => (intro w hSw; (try dsimp only at hSw); go_simp; try (with_reducible rfl))
            case hr10 =>
            simp only [Act.put, List.setIfInBounds_toArray, List.set_cons_zero, List.set_cons_succ]
            refine held_yes 11 14 (v := ?_) rfl rfl (by kernel_rfl) (by kernel_rfl) (by kernel_rfl) (fun _ _ _ h => h) (by kernel_rfl) ?hy11 hHeld ?hr11
            case hy11 => (intro w hSw; (try dsimp only at hSw); go_simp; try (with_reducible rfl))
            case hr11 =>
            simp only [Act.put, List.setIfInBounds_toArray, List.set_cons_zero, List.set_cons_succ]
            refine wpAnyH_done (by kernel_rfl) ?_ _
            go_wp2
            go_roundw
            case rel => exact ⟨j + 1, by omega, by go_num, by rw [HANY.out]; rfl, grown_drew hgq⟩
            case measure => simp [intOf]; omega
          | false =>
            have HR := Lib.hid RQ
            have hcl : ∀ (w' : World), wr.grownBy w' none → w'.cell? ⟨ob, j, none⟩ = some (.slice aj nj cj) ∧ w'.cell? ⟨ba, oa + k, none⟩ = some (.int .u64 (z : Nat)) := fun w' hg => HCL.out _ hg
            go_wp2
            go_region_held3 (fun w' => w'.cell? ⟨ob, j, none⟩ = some (.slice aj nj cj) ∧ w'.cell? ⟨ba, oa + k, none⟩ = some (.int .u64 (z : Nat))) (go_keep)
              (first | (go_at_call 16; ((with_reducible refine (hin _ (grown_drew (grown_refl _ none))).mono ?_); rintro e w5 ⟨rfl, hg5⟩; have HG := grown_trans (grown_drew (grown_refl wr none)) hg5; obtain ⟨p0, p1⟩ := hcl _ HG)))
            go_wp2
            go_roundw
            case rel => exact ⟨j + 1, by omega, by go_num, by rw [HANY.out]; rfl, grown_trans hgq HG⟩
            case measure => simp [intOf]; omega
        · obtain rfl : j = 8 := by omega
          obtain ⟨bb, hbb⟩ : ∃ bb, anyL L z 8 = bb := ⟨_, rfl⟩
          rw [hbb]
          cases bb with
          | true =>
            clear hbb
            go_wp2
            go_roundw
            case rel => exact ⟨k + 1, by omega, by go_num, RQ⟩
            case measure => simp [intOf]; omega
          | false =>
            have hno := anyL_no hbb
            have hlk := RQ.link HU.out hq8 HZU.out hno
            have hback := last_back (hno q hq8)
            have hsame : setL L q (z :: L q) q = z :: L q := setL_same _ _ _
            obtain ⟨L5, hL5⟩ : ∃ L5, setL L q (z :: L q) = L5 := ⟨_, rfl⟩
            rw [hL5] at hlk hback hsame
            have hfq := HF.out q
            have HNO := Lib.hid hno
            have HBK := Lib.hid hback
            have HSM := Lib.hid hsame
            clear hno hback hsame hL5 hbb
            obtain ⟨nq, hnq⟩ : ∃ nq, (L q).length = nq := ⟨_, rfl⟩
            have HNQ := Lib.hid hnq
            rw [hnq] at hfq
            clear hnq
            obtain ⟨mq, hmq⟩ : ∃ mq, nq + 1 = mq := ⟨_, rfl⟩
            have e6 : (nq : Int) + 1 = (mq : Nat) := by omega
            have h6 : mq ≤ 41 := by omega
            have h7 : (0 : Int) < (mq : Int) := by omega
            have h8 : 0 < mq := by omega
            have h9 : (q : Int) < 8 := by omega
            have h10 : (0 : Int) ≤ (q : Int) := by omega
            have HMQ := Lib.hid hmq
            clear hmq
            have hul := fun (w' : World) (h : Rd w1 T U tg ob w1.heap.size L L5 va vc (some ⟨ba, oa, none⟩) fc w') => h.unlink HU.out hq8 (off := z) (by rw [HSM.out]; simp)
            rw [HBK.out] at hul
            have hls := fun (w' : World) (h : Rd w1 T U tg ob w1.heap.size L L5 va vc (some ⟨ba, oa, none⟩) fc w') => h.list_first HU.out hq8 (x := z) (ys := L q) HSM.out (m := mq) (by rw [HNQ.out]; exact HMQ.out)
            have hhd := fun (w' : World) (h : Rd w1 T U tg ob w1.heap.size L L5 va vc (some ⟨ba, oa, none⟩) fc w') => h.head hq8 (x := z) (by rw [HSM.out]; rfl)
            have hat : ∀ (M : Nat → List Nat) (w' : World), Rd w1 T U tg ob w1.heap.size L M va vc (some ⟨ba, oa, none⟩) fc w' → w'.cell? ⟨ba, oa + k, none⟩ = some (.int .u64 (z : Nat)) := fun M w' h => by
              have := h.at_ (k := k) (by rw [HN.out]; exact hlt)
              rw [HZ.out] at this
              exact this
            have hcl : ∀ (M : Nat → List Nat) (w' : World), Rd w1 T U tg ob w1.heap.size L M va vc (some ⟨ba, oa, none⟩) fc w' → w'.cell? ⟨ob, q, none⟩ = some (.slice (va q) nq (vc q)) ∧ WordsAt w' (va q) (L q) := fun M w' h => by
              obtain ⟨h1, h2, _⟩ := h.cell hq8
              rw [HNQ.out] at h1
              exact ⟨h1, h2⟩
            have hck := fun (w' : World) (h : Rd w1 T U tg ob w1.heap.size L L va vc (some ⟨ba, oa, none⟩) fc w') => h.check (k := vc q) HU.out hq8 (hcl _ _ h).2 HNQ.out
            obtain ⟨aq, haq⟩ : ∃ aq, va q = aq := ⟨_, rfl⟩
            obtain ⟨cq, hcq⟩ : ∃ cq, vc q = cq := ⟨_, rfl⟩
            rw [haq, hcq] at hck
            have HAT := Lib.hid hat
            have HC2 : Hid (∀ (M : Nat → List Nat) (w' : World), Rd w1 T U tg ob w1.heap.size L M va vc (some ⟨ba, oa, none⟩) fc w' → w'.cell? ⟨ob, q, none⟩ = some (.slice aq nq cq)) := Lib.hid fun M w' h => by
              have := (hcl _ _ h).1
              rw [haq, hcq] at this
              exact this
            clear hat hcl haq hcq
            obtain q0 := HC2.out _ _ RQ
            go_wp2_with (first | (go_at_call 17; ((with_reducible refine hlk.mono ?_); rintro e w5 ⟨rfl, R5⟩; have t5 := HAT.out _ _ R5; have q5 := HC2.out _ _ R5)) | (go_at_call 15; ((with_reducible refine (hls _ R5).mono ?_); rintro e w6 ⟨b6, o6, c6, rfl, HB6, hg6⟩; have R6 := R5.later hg6; have t6 := HAT.out _ _ R6; have q6 := HC2.out _ _ R6; have s6 := HB6.out _ (grown_refl _ _))))
            clear t5 q5 q0 u0
            have e7 : ((mq : Int) != (mq : Int)) = false := by simp
            have e8 : ((z : Int) != (z : Int)) = false := by simp
            have e9 : IntKind.i64.wrap (mq : Int) = (mq : Nat) := by rw [IntKind.wrap_i64]; omega
            go_region_held3 (fun w' => w'.cell? ⟨ob, q, none⟩ = some (.slice aq nq cq) ∧ w'.cell? ⟨ba, oa + k, none⟩ = some (.int .u64 (z : Nat)) ∧ w'.cell? ⟨b6, o6, none⟩ = some (.int .u64 (z : Nat))) (go_keep)
              (first | (go_at_call 18; ((with_reducible refine (hhd _ (R6.later (grown_drew (grown_refl _ none)))).mono ?_); rintro e w7 ⟨rfl, hg7⟩; have HG := grown_trans (grown_drew (grown_refl w6 none)) hg7; have p0 := HC2.out _ _ (R6.later HG); have p1 := HAT.out _ _ (R6.later HG); have p2 := HB6.out _ HG)))
            have R7 := R6.later HG
            go_wp2_with (first | (go_at_call 19; ((with_reducible refine (hul _ R7).mono ?_); rintro e w8 ⟨rfl, R8⟩; have t8 := HAT.out _ _ R8; have q8 := HC2.out _ _ R8)) | (go_at_call 10; ((with_reducible refine (hck _ R8).mono ?_); rintro e w9 ⟨rfl, hg9⟩)))
            go_roundw
            case rel => exact ⟨k + 1, by omega, by go_num, R8.later hg9⟩
            case measure => simp [intOf]; omega
    · obtain rfl : k = N := by omega
      go_wp2
      go_ret
      exact ⟨by simp, grown_trans HS.out RR.since⟩
theorem walk {la lb : Option Addr} {n c m cm : Nat} {A B C X Y : Nat → Nat} {w : World} (hc : n ≤ c) (hn : n ≤ maxLen) (hp : PiecesAt w la n A B C) (_ : m ≤ cm) (hm : m ≤ maxLen) (hs : StepsAt w lb m X Y) (a : Int) (wa : (Lit.int .u8 a).wf = true) :
    Calls Try.prog 5 #[.slice la n c, .slice lb m cm, .int .u8 a] w fun e w' => e = .returned (.bool true) ∧ Below w.heap.size w w' := by
  obtain ⟨x, rfl, hx⟩ := nat_byte9 wa
  exact (core hp hc hn hs hm hx).mono fun e w' ⟨h1, h2⟩ => ⟨h1, grown_below h2⟩

theorem laidOut : laidOutB Try.prog = true := by kernel_rfl
/-! ### The row's step: the guide's frame -/
theorem own : ownKnob Try.prog.godebug = none := by kernel_rfl
set_option maxRecDepth 100000 in
theorem lifted (os : Os) (started : os.Started) (H : Type) (enc : TypeId × Value → H) :
    ReturnsInHanded {} Try.checked os 5 .any (Rows.ledgerLastSpec.pre6 enc Try.prog Try.f5 Rows.ledgerLastRow.domain false) (Rows.ledgerLastSpec.post enc Try.prog Try.f5 false true false false) := by
  refine returnsInHanded_of_change (C := Try.checked) own started (by kernel_rfl) Try.func5
    (ChangeSpec.witness6 (enc := enc) (C := Try.checked) false ⟨#[], #[.slice none 0 0, .slice none 0 0, .int .u8 0], []⟩ 8 (by kernel_rfl) (by kernel_rfl) (by kernel_rfl) (by kernel_rfl)) ?_
  intro W base args ds gs before hval0 hW hcnd _
  have hval : ∀ (j : Nat) t v, Try.f5.params[j]? = some t → args[j]? = some v → Value.okWide Try.prog W .any base t v := hval0
  have hW' := hW
  obtain ⟨p, q, hA0, hV, rfl, hfz, hnd⟩ := hW
  have hA : DataW.TrodAll enc Try.prog W 0 (fun _ => true) true Try.f5.params.toList args.toList ds p := hA0
  rw [Try.params5] at hA hval
  obtain ⟨v0, vs0, d0, ds0, p0, q0, hargs, rfl, rfl, h0, r0⟩ := trodAll_cons hA
  obtain ⟨v1, vs1, d1, ds1, p1, q1, rfl, rfl, rfl, h1, r1⟩ := trodAll_cons r0
  obtain ⟨v2, vs2, d2, ds2, p2, q2, rfl, rfl, rfl, h2, r2⟩ := trodAll_cons r1
  obtain ⟨rfl, rfl, rfl⟩ := trodAll_nil r2
  obtain rfl : args = #[v0, v1, v2] := by cases args; simp_all
  obtain ⟨rfl, rfl⟩ := trodVars_none hV
  have lt0 : ∀ x ∈ p0, x.block < W.heap.size := by obtain ⟨m, hm⟩ := h0; exact DataW.trod_lt m _ _ _ hm
  obtain ⟨la0, n0, c0, A0, B0, C0, rfl, hc0, hn0, hp0⟩ := open_pieces (hval 0 34 v0 rfl rfl) h0
  have lt1 : ∀ x ∈ p1, x.block < W.heap.size := by obtain ⟨m, hm⟩ := h1; exact DataW.trod_lt m _ _ _ hm
  obtain ⟨la1, n1, c1, A1, B1, rfl, hc1, hn1, hp1⟩ := open_steps (hval 1 35 v1 rfl rfl) h1
  obtain ⟨a2, rfl, rfl, rfl, w2⟩ := open_int Try.underlying5 (hval 2 5 v2 rfl rfl) h2
  clear hA0 hval0
  refine (walk hc0 hn0 hp0 hc1 hn1 hp1 a2 w2).mono fun e W' ⟨he, bel⟩ => ?_
  subst he
  exact ⟨_, rfl, _, _, _, [], _, [], hW', trodAll_mk1 (shut_bool Try.underlying4 _), (trodAll_cons_mk (Below.trod laidOut (by kernel_rfl) (of_decide_eq_true (by kernel_rfl)) h0 bel lt0) (trodAll_cons_mk (Below.trod laidOut (by kernel_rfl) (of_decide_eq_true (by kernel_rfl)) h1 bel lt1) (trodAll_cons_mk (shut_int Try.underlying5 w2) trodAll_mk0))), rfl, bel.frame _, fun h => by cases h⟩

theorem over : Rows.ledgerLastRow.holds Try.pinned (OpenSpec.ofChange Rows.ledgerLastSpec) :=
  OpenClaim.holds_of_wide 5 Try.f5 rfl rfl rfl rfl rfl rfl rfl ⟨rfl, rfl, rfl, rfl, rfl⟩ rfl rfl rfl rfl rfl (by kernel_rfl) Try.func5 (by kernel_rfl)
    (of_decide_eq_true (by kernel_rfl)) (by unfold Func.isWrapper; first | (rw [if_pos (by decide +kernel)]; kernel_rfl) | (rw [if_neg (by decide +kernel)]; exact ⟨rfl, rfl⟩))
    (fun os started H enc _ => lifted os started H enc)

theorem proved : Rows.LedgerLastSaid :=
  over
#print axioms proved


end Go.Proofs.Ytkpopaadkfgjaaa.ledgerLast
