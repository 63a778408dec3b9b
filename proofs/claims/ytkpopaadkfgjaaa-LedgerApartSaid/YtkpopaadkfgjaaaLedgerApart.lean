/-
  What is done to one client's list leaves all others' as they were, and all blocks' first words. The statement LedgerApart, for all lists of pieces, all steps, and one step more; no condition.
-/
import Derived.Test.YtkpopaadkfgjaaaLedS
import Derived.Test.YtkpopaadkfgjaaaLTx
namespace Go.Proofs.Ytkpopaadkfgjaaa.ledgerApart
open Go.ChangeShapes Go.WideShapes Go.ChangeAt Go.RowKit
set_option linter.unusedVariables false
set_option linter.unusedSimpArgs false
set_option maxRecDepth 100000

/-- what a round of the sum needs -/
theorem sum_next {tg : Nat → Nat} {U : List Nat} {k : Nat} (hk : k ≤ 1000) : ∃ p s s' : Nat, sumT tg U k = s ∧ sumT tg U (k + 1) = s' ∧ IntKind.u64.wrap ((tg (U.getD k 0) : Int) * ((k : Int) + 1)) = (p : Nat) ∧ IntKind.u64.wrap ((s : Int) + (p : Int)) = (s' : Nat) := by
  obtain ⟨q, hq⟩ : ∃ q, tg (U.getD k 0) * (k + 1) = q := ⟨_, rfl⟩
  have e : (tg (U.getD k 0) : Int) * ((k : Int) + 1) = (q : Nat) := by rw [← hq, Int.natCast_mul]; rfl
  refine ⟨q % 18446744073709551616, _, _, rfl, rfl, ?_, ?_⟩
  · rw [e, IntKind.wrap_u64]; omega
  · show _ = (((sumT tg U k + tg (U.getD k 0) * (k + 1) % 18446744073709551616) % 18446744073709551616 : Nat) : Int)
    rw [hq, IntKind.wrap_u64]
    omega
theorem pair_lit {V V' : World} {b x y : Nat} (hx : x < 256) (hy : y < 256) (hb : V.heap.size = b) (hg : (V.alloc (.cells #[.int .u8 (x : Nat), .int .u8 (y : Nat)] 52)).grownBy V' none) : StepsAt V' (some ⟨b, 0, none⟩) 1 (fun _ => x) (fun _ => y) := by
  subst hb
  have h : V'.heap[V.heap.size]? = some (.cells #[.int .u8 (x : Nat), .int .u8 (y : Nat)] 52 (0, 0)) := (hg.block _ (by simp) (by simp)).trans (heap_alloc_new' V _)
  exact ⟨fun _ => ⟨hx, hy⟩, fun _ => ⟨_, 0, rfl, lt_of_block h, fun i hi => by
    obtain rfl : i = 0 := by omega
    unfold World.cell?
    simp only [h]
    exact ⟨rfl, rfl⟩⟩⟩
theorem steps_kept {w w' : World} {b n : Nat} {A B : Nat → Nat} {row : Option Nat} (h : StepsAt w (some ⟨b, 0, none⟩) n A B) (hg : w.grownBy w' row) (hne : row ≠ some b) : StepsAt w' (some ⟨b, 0, none⟩) n A B where
  lt := h.lt
  cells := fun hn => by
    obtain ⟨b', off, h1, h2, h3⟩ := h.cells hn
    injection h1 with h1
    injection h1 with e1 e2
    subst e1 e2
    have hb := hg.block b h2 hne.symm
    refine ⟨b, 0, rfl, Nat.lt_of_lt_of_le h2 hg.size, fun i hi => ?_⟩
    obtain ⟨c0, c1⟩ := h3 i hi
    exact ⟨(World.cell?_of_block (w := w) (a := ⟨b, 0 + i * 2, none⟩) hb).trans c0, (World.cell?_of_block (w := w) (a := ⟨b, 0 + i * 2 + 1, none⟩) hb).trans c1⟩
theorem none_lit {w : World} {base b : Nat} (hb : w.heap.size = b) (h : base ≤ b) : (w.alloc (.cells #[] 52)).ownsRow base 52 2 (.slice (some ⟨b, 0, none⟩) 0 0) 0 [] := by
  subst hb
  exact World.ownsRow_lit (base := base) (e := 52) (size := 2) w #[] 0 h (by decide) rfl
set_option maxHeartbeats 16000000 in
theorem core {w : World} {la lb : Option Addr} {n c m cm x y : Nat} {A B C X Y : Nat → Nat} (hp : PiecesAt w la n A B C) (hc : n ≤ c) (hn : n ≤ maxLen) (hs : StepsAt w lb m X Y) (h2 : m * 2 ≤ 140737488351232) (hx : x < 256) (hy : y < 256) :
    Calls Try.prog 7 #[.slice la n c, .slice lb m cm, .agg #[.int .u8 x, .int .u8 y]] w fun e w' => e = .returned (.bool true) ∧ w.grownBy w' none := by
  have hm : m ≤ maxLen := by unfold maxLen; omega
  have hla := fun (w1 : World) (hg : w.grownBy w1 none) => laid9_told (w := w1) (hp.later hg) hc hn (grown_refl w1 none)
  have hst := fun (w1 : World) (hg : w.grownBy w1 none) => hs.later hg
  obtain ⟨W0, hW0⟩ : ∃ W0, w.alloc (.cells #[.int .u8 x, .int .u8 y] 52) = W0 := ⟨_, rfl⟩
  have hg0 : w.grownBy W0 none := by rw [← hW0]; exact World.grownBy_alloc _ _ _
  have hbx : W0.heap[w.heap.size]? = some (.cells #[.int .u8 x, .int .u8 y] 52 (0, 0)) := by rw [← hW0]; exact heap_alloc_new' _ _
  have HBX := Lib.hid hbx
  have HLA := Lib.hid hla
  have HST := Lib.hid hst
  clear hp hs hbx hla hst
  go_enter Try.func7, Try.ntmps7
  go_wp2_with (first | (go_at_call 8; ((with_reducible refine (awake9 _).mono ?_); rintro e w1 ⟨rfl, hg1⟩; (try rw [hW0] at hg1); have hG1 := grown_trans hg0 hg1; have hla := HLA.out _ hG1)) | (go_at_call 12; ((with_reducible refine hla.mono ?_); rintro e w2 ⟨T, R, U, tg, fa, fc, rfl, G, _, hg2, HL1⟩; have hpl := plays_from (cm := cm) G (HST.out _ hG1) hm; have hU := G.grid; obtain ⟨ba, oa, rfl⟩ := kw_spot G.row G.pos)) | (go_at_call 13; ((with_reducible refine hpl.mono ?_); rintro e w3 ⟨L, va, vc, rfl, P3⟩)))
  obtain ⟨W4, hW4⟩ : ∃ W4, w3.alloc (.cells #[.slice (va 0) (L 0).length (vc 0), .slice (va 1) (L 1).length (vc 1), .slice (va 2) (L 2).length (vc 2), .slice (va 3) (L 3).length (vc 3), .slice (va 4) (L 4).length (vc 4), .slice (va 5) (L 5).length (vc 5), .slice (va 6) (L 6).length (vc 6), .slice (va 7) (L 7).length (vc 7)] 38) = W4 := ⟨_, rfl⟩
  have R0 := P3.box G hg2
  rw [hW4] at R0 ⊢
  obtain ⟨ob, hob⟩ : ∃ ob, w3.heap.size = ob := ⟨_, rfl⟩
  rw [hob] at R0 ⊢
  have HF := Lib.hid P3.few
  have HSY := Lib.hid P3.says
  have HR0 := Lib.hid R0
  have HS0 := Lib.hid (grown_trans hG1 R0.since)
  have HU := Lib.hid hU
  have HL := Lib.hid HL1
  have HU21 := Lib.hid G.few
  have HUP := Lib.hid G.pos
  have HW1 := Lib.hid hG1
  have HW01 := Lib.hid (grown_trans hg1 R0.since)
  obtain ⟨nU, hnU⟩ : ∃ nU, U.length = nU := ⟨_, rfl⟩
  have HN := Lib.hid hnU
  have hn21 : nU ≤ 21 := hnU ▸ G.few
  rw [hnU]
  clear hla hpl P3 G hg2 hob R0 hU HL1 hW4 hg1 hG1 hnU hW0
  go_loopw [12, 13] (fun tv i wr => ∃ k : Nat, k ≤ nU ∧ i = .int .i64 k ∧ tv = .int .u64 (sumT tg U k : Nat) ∧ W4.grownBy wr none) (fun _ i _ => nU - (intOf i).toNat)
  case atStart => exact ⟨0, Nat.zero_le _, rfl, rfl, grown_refl _ _⟩
  case round =>
    obtain ⟨k, hk, rfl, rfl, hgk⟩ := hrel
    obtain ⟨p, s, s', es, es', e1, e2⟩ := sum_next (tg := tg) (U := U) (k := k) (by omega)
    rw [es]
    by_cases hkn : k < nU
    · have hkn' : (k : Int) < (nU : Int) := by omega
      have RR := HR0.out.later hgk
      have u0 := RR.at_ (k := k) (by rw [HN.out]; exact hkn)
      have hld := RR.load HU.out (x := U.getD k 0) (getD_in (by rw [HN.out]; exact hkn))
      obtain ⟨z, hz⟩ : ∃ z, U.getD k 0 = z := ⟨_, rfl⟩
      rw [hz] at u0 hld e1
      obtain ⟨v, hv⟩ : ∃ v, tg z = v := ⟨_, rfl⟩
      rw [hv] at hld e1
      clear hz hv RR es
      go_wp2_with (go_at_call 21; (with_reducible refine hld.mono ?_); rintro e w5 ⟨rfl, hg5⟩)
      go_roundw
      case rel => exact ⟨k + 1, by omega, by go_num, by rw [es'], grown_trans hgk hg5⟩
      case measure => simp [intOf]; omega
    · obtain rfl : k = nU := by omega
      have HES := Lib.hid es
      clear es es' e1 e2
      have hbk := ((grown_trans HW01.out hgk).block _ (lt_of_block HBX.out) (by simp)).trans HBX.out
      obtain ⟨b0, hb0⟩ : ∃ b0, w.heap.size = b0 := ⟨_, rfl⟩
      rw [hb0] at hbk ⊢
      have q0 : wr.cell? ⟨b0, 0, none⟩ = some (.int .u8 x) := by simp [World.cell?, hbk]
      have q1 : wr.cell? ⟨b0, 1, none⟩ = some (.int .u8 y) := by simp [World.cell?, hbk]
      have hgs : ∀ V : World, wr.grownBy V none → StepsAt V lb m X Y := fun V hg => HST.out V (grown_trans HS0.out (grown_trans hgk hg))
      have hSS : ∀ V : World, wr.grownBy V none → V.cell? ⟨b0, 0, none⟩ = some (.int .u8 x) ∧ V.cell? ⟨b0, 1, none⟩ = some (.int .u8 y) := fun V hg => by
        have := (hg.block _ (lt_of_block hbk) (by simp)).trans hbk
        constructor <;> simp [World.cell?, this]
      have hgd : wr.grownBy wr.drew none := grown_drew (grown_refl _ none)
      have hga : ∀ {V : World} (o : Obj), wr.grownBy V none → wr.grownBy (V.alloc o) none := fun o h => grown_trans h (World.grownBy_alloc _ _ _)
      have hds : wr.drew.heap.size = wr.heap.size := by simp
      have hds1 : (wr.drew.alloc (.cells #[] 52)).heap.size = wr.heap.size + 1 := by simp
      have hds2 : (wr.drew.alloc (.cells #[.int .u8 x, .int .u8 y] 52)).heap.size = wr.heap.size + 1 := by simp
      have hne1 : some wr.heap.size ≠ some (wr.heap.size + 1) := by simp
      have hne2 : some (wr.heap.size + 1) ≠ some wr.heap.size := by simp
      have hq3 : (0 + m + 1) * 2 ≤ 140737488355328 := by omega
      have hq6 : (0 + m) * 2 ≤ 140737488355328 := by omega
      clear hbk
      go_wp2
      rename_i K hK
      have hrest : ∀ (g cap nm : Nat) (u53 u55 u57 : Value) (w7 : World), m + 1 = nm → wr.grownBy w7 none → StepsAt w7 (some ⟨g, 0, none⟩) nm (moreS X m x) (moreS Y m y) → K { tmps := #[.slice la n c, .slice lb m cm, .agg #[.int .u8 ↑x, .int .u8 ↑y], undef, undef, .pointer (some ⟨b0, 0, none⟩), .bool false, .bool true, .pointer (some ⟨T, 0, none⟩), .slice (some ⟨ba, oa, none⟩) k fc, .pointer (some ⟨ob, 0, none⟩), .bool true, .int .u64 ↑s, .int .i64 ↑k, .slice (some ⟨g, 0, none⟩) nm cap, undef, undef, undef, undef, undef, undef, undef, .bool true, .tuple #[.pointer (some ⟨T, 0, none⟩), .slice (some ⟨ba, oa, none⟩) k fc], .slice la n c, .tuple #[.pointer (some ⟨T, 0, none⟩), .slice (some ⟨ba, oa, none⟩) k fc], .pointer (some ⟨T, 0, none⟩), .slice (some ⟨ba, oa, none⟩) k fc, .tuple #[.agg #[.slice (va 0) (L 0).length (vc 0), .slice (va 1) (L 1).length (vc 1), .slice (va 2) (L 2).length (vc 2), .slice (va 3) (L 3).length (vc 3), .slice (va 4) (L 4).length (vc 4), .slice (va 5) (L 5).length (vc 5), .slice (va 6) (L 6).length (vc 6), .slice (va 7) (L 7).length (vc 7)], .bool true], .pointer (some ⟨T, 0, none⟩), .slice (some ⟨ba, oa, none⟩) k fc, .slice lb m cm, .tuple #[.agg #[.slice (va 0) (L 0).length (vc 0), .slice (va 1) (L 1).length (vc 1), .slice (va 2) (L 2).length (vc 2), .slice (va 3) (L 3).length (vc 3), .slice (va 4) (L 4).length (vc 4), .slice (va 5) (L 5).length (vc 5), .slice (va 6) (L 6).length (vc 6), .slice (va 7) (L 7).length (vc 7)], .bool true], .agg #[.slice (va 0) (L 0).length (vc 0), .slice (va 1) (L 1).length (vc 1), .slice (va 2) (L 2).length (vc 2), .slice (va 3) (L 3).length (vc 3), .slice (va 4) (L 4).length (vc 4), .slice (va 5) (L 5).length (vc 5), .slice (va 6) (L 6).length (vc 6), .slice (va 7) (L 7).length (vc 7)], .bool true, .int .i64 ↑k, .slice (some ⟨ba, oa, none⟩) k fc, .int .i64 ↑k, .bool false, u39, u40, u41, u42, u43, u44, u45, u46, u47, u48, u49, u50, u51, u52, u53, .slice lb m cm, u55, .agg #[.int .u8 ↑x, .int .u8 ↑y], u57, .slice (some ⟨g, 0, none⟩) nm cap, undef, undef, undef, undef, undef, undef, undef, undef, undef, undef, undef, undef, undef, undef, undef, undef, undef, undef, undef, undef, undef, undef, undef, undef, undef, undef, undef, undef, undef, undef, undef, undef, undef, undef, undef, undef, undef, undef, undef, undef, undef, undef, undef, undef, undef, undef, undef, undef, undef, undef, undef, undef, undef, undef, undef, undef, undef, undef, undef, undef, undef, undef, undef, undef, undef, undef, undef, undef, undef, undef, undef, undef, undef], defers := [] } w7 := by
        intro g cap nm u53 u55 u57 w7 hnm hg7 hs7
        apply hK
        clear hK
        have hgw7 := grown_trans HS0.out (grown_trans hgk hg7)
        have HSS := Lib.hid hSS
        have HNM := Lib.hid hnm
        have hnm2 : nm ≤ maxLen := by unfold maxLen; omega
        clear hgs hSS hgd hga hds hds1 hds2 hne1 hne2 hq3 hq6 q0 q1
        by_cases h40 : 40 < nm
        · have h40' : (40 : Int) < (nm : Int) := by omega
          go_wp2
          go_ret
          exact ⟨rfl, hgw7⟩
        · have h40' : ¬ (40 : Int) < (nm : Int) := by omega
          have hla2 := HLA.out w7 hgw7
          have hU := HU.out
          go_wp2_with (first | (go_at_call 12; ((with_reducible refine hla2.mono ?_); rintro e w8 ⟨T2, R2, U2, tg2, fa2, fc2, rfl, G2, _, hg8, HL2⟩; obtain ⟨rfl, rfl⟩ := LaidU.one HL.out HL2; have hpl2 := plays_from (cm := cap) G2 hs7 hnm2; obtain ⟨bc, oc2, rfl⟩ := kw_spot G2.row G2.pos)) | (go_at_call 13; ((with_reducible refine hpl2.mono ?_); rintro e w9 ⟨L2, va2, vc2, rfl, P9⟩)))
          obtain ⟨W10, hW10⟩ : ∃ W10, w9.alloc (.cells #[.slice (va2 0) (L2 0).length (vc2 0), .slice (va2 1) (L2 1).length (vc2 1), .slice (va2 2) (L2 2).length (vc2 2), .slice (va2 3) (L2 3).length (vc2 3), .slice (va2 4) (L2 4).length (vc2 4), .slice (va2 5) (L2 5).length (vc2 5), .slice (va2 6) (L2 6).length (vc2 6), .slice (va2 7) (L2 7).length (vc2 7)] 38) = W10 := ⟨_, rfl⟩
          have R10 := P9.box G2 hg8
          rw [hW10] at R10 ⊢
          obtain ⟨oc, hoc⟩ : ∃ oc, w9.heap.size = oc := ⟨_, rfl⟩
          rw [hoc] at R10 ⊢
          have HR10 := Lib.hid R10
          have HF2 := Lib.hid P9.few
          have HSY2 := Lib.hid P9.says
          have HG10 := Lib.hid R10.since
          have hu := HN.out
          rw [hu]
          clear hla2 hpl2 P9 G2 hg8 hoc R10 hU hW10 HL2 hu hs7
          have hgq := grown_trans hgk (grown_trans hg7 HG10.out)
          have HRA := Lib.hid (HR0.out.later hgq)
          have HFIN := Lib.hid (grown_trans HS0.out hgq)
          have HC0 : Hid (∀ V : World, W10.grownBy V none → V.cell? ⟨b0, 0, none⟩ = some (.int .u8 x)) := Lib.hid fun V hg => (HSS.out V (grown_trans (grown_trans hg7 HG10.out) hg)).1
          obtain ⟨r, hr⟩ : ∃ r, x % 8 = r := ⟨_, rfl⟩
          have et : (x : Int).tmod 8 = (r : Nat) := by rw [Int.tmod_eq_emod_of_nonneg (by omega)]; omega
          have ewr : IntKind.i64.wrap (r : Int) = (r : Nat) := by rw [IntKind.wrap_i64]; omega
          have hr8 : r < 8 := by omega
          have HR8 := Lib.hid hr
          clear hgq hr HSS HG10
          obtain ⟨wq, hwq⟩ : ∃ wq, wq = wr := ⟨_, rfl⟩
          subst hwq
          go_loopw [19, 20] (fun tv i wr => ∃ j : Nat, j ≤ k ∧ i = .int .i64 j ∧ tv = .int .u64 (sumT tg U j : Nat) ∧ W10.grownBy wr none) (fun _ i _ => k - (intOf i).toNat)
          case atStart => exact ⟨0, Nat.zero_le _, rfl, rfl, grown_refl _ _⟩
          case round =>
            obtain ⟨j, hj, rfl, rfl, hgj⟩ := hrel
            obtain ⟨p2, s2, s3, es2, es3, e3, e4⟩ := sum_next (tg := tg) (U := U) (k := j) (by omega)
            by_cases hjk : j < k
            · rw [es2]
              have hjk' : (j : Int) < (k : Int) := by omega
              have RR := HR10.out.later hgj
              have u0 := RR.at_ (k := j) (by rw [HN.out]; exact hjk)
              have hld := RR.load HU.out (x := U.getD j 0) (getD_in (by rw [HN.out]; exact hjk))
              obtain ⟨z, hz⟩ : ∃ z, U.getD j 0 = z := ⟨_, rfl⟩
              rw [hz] at u0 hld e3
              obtain ⟨v, hv⟩ : ∃ v, tg z = v := ⟨_, rfl⟩
              rw [hv] at hld e3
              clear hz hv RR es2
              go_wp2_with (go_at_call 21; (with_reducible refine hld.mono ?_); rintro e w11 ⟨rfl, hg11⟩)
              go_roundw
              case rel => exact ⟨j + 1, by omega, by go_num, by rw [es3], grown_trans hgj hg11⟩
              case measure => simp [intOf]; omega
            · obtain rfl : j = k := by omega
              rw [HES.out]
              clear es2 es3 e3 e4
              obtain ⟨wp, hwp⟩ : ∃ wp, wp = wr := ⟨_, rfl⟩
              subst hwp
              go_wp2
              go_loopw [21] (fun i wv => ∃ d : Nat, d ≤ 8 ∧ i = .int .i64 d ∧ W10.grownBy wv none) (fun i _ => 8 - (intOf i).toNat)
              case atStart => exact ⟨0, Nat.zero_le _, rfl, hgj⟩
              case round =>
                obtain ⟨d, hd, rfl, hgv⟩ := hrel
                clear hgj
                by_cases hd8 : d < 8
                · have hd8' : (d : Int) < 8 := by omega
                  have hd0 : (0 : Int) ≤ (d : Int) := by omega
                  obtain ⟨x0, x1, x2⟩ := (HRA.out.later hgv).cell hd8
                  obtain ⟨y0, y1, y2⟩ := (HR10.out.later hgv).cell hd8
                  have hx0 := fun (V : World) (hg : wr.grownBy V none) => ((HRA.out.later (grown_trans hgv hg)).cell hd8).1
                  have hy0 := fun (V : World) (hg : wr.grownBy V none) => ((HR10.out.later (grown_trans hgv hg)).cell hd8).1
                  have hc0 := fun (V : World) (hg : wr.grownBy V none) => HC0.out V (grown_trans hgv hg)
                  have hck := fun (V : World) (hg : wr.grownBy V none) => (HR10.out.later (grown_trans hgv hg)).check (k := vc2 d) HU.out hd8 (y1.later hg) rfl
                  have hfd := HF.out d
                  by_cases hdr : d = r
                  · subst hdr
                    have ed : ((d : Int) != (d : Int)) = false := by simp
                    obtain ⟨n6, hn6⟩ : ∃ n6, (L2 d).length = n6 := ⟨_, rfl⟩
                    obtain ⟨a6, ha6⟩ : ∃ a6, va2 d = a6 := ⟨_, rfl⟩
                    obtain ⟨c6, hc6⟩ : ∃ c6, vc2 d = c6 := ⟨_, rfl⟩
                    rw [hn6, ha6, hc6] at hck hy0 y0
                    have z0 := hc0 wr (grown_refl _ none)
                    have HG : wr.grownBy wr.drew none := grown_drew (grown_refl _ none)
                    have t0 := hc0 _ HG
                    have hY := hy0 _ HG
                    clear hx0 x0 x1 x2 y1 y2 hn6 ha6 hc6 z0
                    go_wp2
                    refine wp_region_held_drew (S := fun w' => w'.cell? ⟨b0, 0, none⟩ = some (.int .u8 x)) (by kernel_rfl) t0 (fun hHeld => ?_)
                    refine held_yes 0 97 (v := ?_) rfl rfl (by kernel_rfl) (by kernel_rfl) (by kernel_rfl) (fun _ _ _ h => h) (by kernel_rfl) ?hy0 hHeld ?hr0
                    case hy0 => (intro w hSw; (try dsimp only at hSw); go_simp; try (with_reducible rfl))
                    case hr0 =>
                    simp only [Act.put, List.setIfInBounds_toArray, List.set_cons_zero, List.set_cons_succ]
                    refine held_yes 1 98 (v := ?_) rfl rfl (by kernel_rfl) (by kernel_rfl) (by kernel_rfl) (fun _ _ _ h => h) (by kernel_rfl) ?hy1 hHeld ?hr1
                    case hy1 => (intro w hSw; (try dsimp only at hSw); go_simp; try (with_reducible rfl))
                    case hr1 =>
                    simp only [Act.put, List.setIfInBounds_toArray, List.set_cons_zero, List.set_cons_succ]
                    refine held_yes 2 99 (v := ?_) rfl rfl (by kernel_rfl) (by kernel_rfl) (by kernel_rfl) (fun _ _ _ h => h) (by kernel_rfl) ?hy2 hHeld ?hr2
                    case hy2 => (intro w hSw; (try dsimp only at hSw); go_simp; try (with_reducible rfl))
                    case hr2 =>
                    simp only [Act.put, List.setIfInBounds_toArray, List.set_cons_zero, List.set_cons_succ]
                    refine held_yes 3 100 (v := ?_) rfl rfl (by kernel_rfl) (by kernel_rfl) (by kernel_rfl) (fun _ _ _ h => h) (by kernel_rfl) ?hy3 hHeld ?hr3
                    case hy3 => (intro w hSw; (try dsimp only at hSw); go_simp; try (with_reducible rfl))
                    case hr3 =>
                    simp only [Act.put, List.setIfInBounds_toArray, List.set_cons_zero, List.set_cons_succ]
                    refine held_yes 4 101 (v := ?_) rfl rfl (by kernel_rfl) (by kernel_rfl) (by kernel_rfl) (fun _ _ _ h => h) (by kernel_rfl) ?hy4 hHeld ?hr4
                    case hy4 => (intro w hSw; (try dsimp only at hSw); go_simp; try (with_reducible rfl))
                    case hr4 =>
                    simp only [Act.put, List.setIfInBounds_toArray, List.set_cons_zero, List.set_cons_succ]
                    refine held_yes 5 102 (v := ?_) rfl rfl (by kernel_rfl) (by kernel_rfl) (by kernel_rfl) (fun _ _ _ h => h) (by kernel_rfl) ?hy5 hHeld ?hr5
                    case hy5 => (intro w hSw; (try dsimp only at hSw); go_simp; try (with_reducible rfl))
                    case hr5 =>
                    simp only [Act.put, List.setIfInBounds_toArray, List.set_cons_zero, List.set_cons_succ]
                    refine held_yes 6 103 (v := ?_) rfl rfl (by kernel_rfl) (by kernel_rfl) (by kernel_rfl) (fun _ _ _ h => h) (by kernel_rfl) ?hy6 hHeld ?hr6
                    case hy6 => (intro w hSw; (try dsimp only at hSw); go_simp; try (with_reducible rfl))
                    case hr6 =>
                    simp only [Act.put, List.setIfInBounds_toArray, List.set_cons_zero, List.set_cons_succ]
                    refine held_skip 7 104 rfl rfl (by kernel_rfl) (by kernel_rfl) (by kernel_rfl) (fun _ _ _ h => h) (by kernel_rfl) hHeld ?_
                    simp only [Act.put, List.setIfInBounds_toArray, List.set_cons_zero, List.set_cons_succ]
                    refine held_skip 8 105 rfl rfl (by kernel_rfl) (by kernel_rfl) (by kernel_rfl) (fun _ _ _ h => h) (by kernel_rfl) hHeld ?_
                    simp only [Act.put, List.setIfInBounds_toArray, List.set_cons_zero, List.set_cons_succ]
                    refine held_skip 9 106 rfl rfl (by kernel_rfl) (by kernel_rfl) (by kernel_rfl) (fun _ _ _ h => h) (by kernel_rfl) hHeld ?_
                    simp only [Act.put, List.setIfInBounds_toArray, List.set_cons_zero, List.set_cons_succ]
                    refine held_skip 10 107 rfl rfl (by kernel_rfl) (by kernel_rfl) (by kernel_rfl) (fun _ _ _ h => h) (by kernel_rfl) hHeld ?_
                    simp only [Act.put, List.setIfInBounds_toArray, List.set_cons_zero, List.set_cons_succ]
                    refine held_skip 11 108 rfl rfl (by kernel_rfl) (by kernel_rfl) (by kernel_rfl) (fun _ _ _ h => h) (by kernel_rfl) hHeld ?_
                    simp only [Act.put, List.setIfInBounds_toArray, List.set_cons_zero, List.set_cons_succ]
                    refine held_skip 12 109 rfl rfl (by kernel_rfl) (by kernel_rfl) (by kernel_rfl) (fun _ _ _ h => h) (by kernel_rfl) hHeld ?_
                    simp only [Act.put, List.setIfInBounds_toArray, List.set_cons_zero, List.set_cons_succ]
                    refine held_skip 13 110 rfl rfl (by kernel_rfl) (by kernel_rfl) (by kernel_rfl) (fun _ _ _ h => h) (by kernel_rfl) hHeld ?_
                    simp only [Act.put, List.setIfInBounds_toArray, List.set_cons_zero, List.set_cons_succ]
                    refine held_skip 14 111 rfl rfl (by kernel_rfl) (by kernel_rfl) (by kernel_rfl) (fun _ _ _ h => h) (by kernel_rfl) hHeld ?_
                    simp only [Act.put, List.setIfInBounds_toArray, List.set_cons_zero, List.set_cons_succ]
                    refine held_yes 15 112 (v := ?_) rfl rfl (by kernel_rfl) (by kernel_rfl) (by kernel_rfl) (fun _ _ _ h => h) (by kernel_rfl) ?hy15 hHeld ?hr15
                    case hy15 => (intro w hSw; (try dsimp only at hSw); go_simp; try (with_reducible rfl))
                    case hr15 =>
                    simp only [Act.put, List.setIfInBounds_toArray, List.set_cons_zero, List.set_cons_succ]
                    refine wpAnyH_done (by kernel_rfl) ?_ _
                    go_wp2_with (go_at_call 10; (with_reducible refine (hck _ HG).mono ?_); rintro e w13 ⟨rfl, hg13⟩)
                    exact ⟨⟨d + 1, by omega, by go_num, grown_trans hgv (grown_trans HG hg13)⟩, by simp [intOf]; omega⟩
                  · have hdr' : ¬ (d : Int) = (r : Int) := by omega
                    have ed : ((d : Int) != (r : Int)) = true := by simp; omega
                    have heq : L2 d = L d := by
                      rw [← HSY2.out, ← HSY.out, Nat.min_eq_left (by omega), Nat.min_eq_left (by have := HNM.out; omega), ← HNM.out]
                      exact play_more U X Y m x y d (by rw [HR8.out]; exact hdr)
                    rw [heq] at hck hy0 y0 y2
                    obtain ⟨l, hl⟩ : ∃ l, L d = l := ⟨_, rfl⟩
                    rw [hl] at hck hy0 y0 y2 hx0 x0 x2 hfd
                    have hnu := fun (V : World) (hg : wr.grownBy V none) => nums_same (x2.later hg) (y2.later hg) (by omega)
                    obtain ⟨n6, hn6⟩ : ∃ n6, l.length = n6 := ⟨_, rfl⟩
                    obtain ⟨a6, ha6⟩ : ∃ a6, va2 d = a6 := ⟨_, rfl⟩
                    obtain ⟨c6, hc6⟩ : ∃ c6, vc2 d = c6 := ⟨_, rfl⟩
                    obtain ⟨a5, ha5⟩ : ∃ a5, va d = a5 := ⟨_, rfl⟩
                    obtain ⟨c5, hc5⟩ : ∃ c5, vc d = c5 := ⟨_, rfl⟩
                    rw [hn6, ha6, hc6] at hck hy0 y0
                    rw [hn6, ha5, hc5] at hx0 x0
                    rw [hn6, ha6, hc6, ha5, hc5] at hnu
                    have z0 := hc0 wr (grown_refl _ none)
                    clear x1 x2 y1 y2 hn6 ha6 hc6 ha5 hc5 hl heq
                    go_wp2
                    go_region_held3 (fun w' => w'.cell? ⟨b0, 0, none⟩ = some (.int .u8 x) ∧ w'.cell? ⟨ob, d, none⟩ = some (.slice a5 n6 c5) ∧ w'.cell? ⟨oc, d, none⟩ = some (.slice a6 n6 c6)) (go_keep)
                      (first | (go_at_call 14; ((with_reducible refine (hnu _ (grown_drew (grown_refl _ none))).mono ?_); rintro e w12 ⟨rfl, hg12⟩; have HG := grown_trans (grown_drew (grown_refl wr none)) hg12; have p0 := hc0 _ HG; have p1 := hx0 _ HG; have p2 := hy0 _ HG)))
                    go_wp2_with (go_at_call 10; (with_reducible refine (hck _ HG).mono ?_); rintro e w13 ⟨rfl, hg13⟩)
                    go_roundw
                    case rel => exact ⟨d + 1, by omega, by go_num, grown_trans hgv (grown_trans HG hg13)⟩
                    case measure => simp [intOf]; omega
                · obtain rfl : d = 8 := by omega
                  go_wp2
                  go_ret
                  exact ⟨by simp, grown_trans HFIN.out hgv⟩
      clear hK
      go_region_held3 (fun w' => w'.cell? ⟨b0, 0, none⟩ = some (.int .u8 x) ∧ w'.cell? ⟨b0, 1, none⟩ = some (.int .u8 y))
        (first | exact hSS _ hgd | exact hSS _ (hga _ hgd) | exact hSS _ (hga _ (hga _ hgd)) | exact hSS _ hG6 | exact hSS _ (hga _ hG6) | exact hSS _ hG7)
        (first
          | ((fail_if_success (have hz6 := hown6)); refine step_append_steps (c := cm) (X := X) (Y := Y) (none_lit (w := wr.drew) hds (Nat.le_refl _)) (hgs _ (hga _ hgd)) hq6 (Nat.le_trans hgd.size (World.grownBy_alloc _ _ none).size) (by rfl) _ _ (by rfl) (by rfl) (by rfl) ?_; intro v6 w6 hown6 hg6 _; have hG6 := grown_step (hga _ hgd) hg6 (fun i hi => .inl (World.ownsRow.lt (none_lit (w := wr.drew) hds (Nat.le_refl _)) i hi).1))
          | ((fail_if_success (have hz6 := hown6)); refine step_append_steps (c := cm) (X := X) (Y := Y) (World.ownsRow.alloc (none_lit (w := wr.drew) hds (Nat.le_refl _)) (.cells #[.int .u8 x, .int .u8 y] 52)) (hgs _ (hga _ (hga _ hgd))) hq6 (hga _ (hga _ hgd)).size (by rfl) _ _ (by rfl) (by rfl) (by rfl) ?_; intro v6 w6 hown6 hg6 _; have hG6 := grown_step (hga _ (hga _ hgd)) hg6 (fun i hi => .inl (World.ownsRow.lt (none_lit (w := wr.drew) hds (Nat.le_refl _)) i hi).1); have hP6 := steps_kept (pair_lit (V := wr.drew.alloc (.cells #[] 52)) hx hy hds1 (grown_refl _ none)) hg6 hne1)
          | ((fail_if_success (have hz6 := hown6)); refine step_append_steps (c := cm) (X := X) (Y := Y) (none_lit (w := wr.drew.alloc (.cells #[.int .u8 x, .int .u8 y] 52)) hds2 (Nat.le_succ wr.heap.size)) (hgs _ (hga _ (hga _ hgd))) hq6 (hga _ (hga _ hgd)).size (by rfl) _ _ (by rfl) (by rfl) (by rfl) ?_; intro v6 w6 hown6 hg6 _; have hG6 := grown_step (hga _ (hga _ hgd)) hg6 (fun i hi => .inl (World.ownsRow.lt (none_lit (w := wr.drew.alloc (.cells #[.int .u8 x, .int .u8 y] 52)) hds2 (Nat.le_succ wr.heap.size)) i hi).1); have hP6 := steps_kept (pair_lit (V := wr.drew) hx hy hds (World.grownBy_alloc _ _ none)) hg6 hne2)
          | (refine step_append_steps (c := 1) hown6 hP6 hq3 hG6.size (by rfl) _ _ (by rfl) (by rfl) (by rfl) ?_; intro v7 w7 hown7 hg7 _; have hG7 := grown_step hG6 hg7 (fun i hi => .inl (World.ownsRow.lt hown6 i hi).1))
          | (refine step_append_steps (c := 1) (World.ownsRow.alloc hown6 (.cells #[.int .u8 x, .int .u8 y] 52)) (pair_lit (V := w6) hx hy rfl (grown_refl _ none)) hq3 (Nat.le_trans hG6.size (World.grownBy_alloc _ _ none).size) (by rfl) _ _ (by rfl) (by rfl) (by rfl) ?_; intro v7 w7 hown7 hg7 _; have hG7 := grown_step (hga _ hG6) hg7 (fun i hi => .inl (World.ownsRow.lt hown6 i hi).1)))
      all_goals
        simp only [Nat.zero_add, List.nil_append] at hown7
        rw [cellsS_more] at hown7
        obtain ⟨g, cap, rfl, _, _⟩ := World.ownsRow.form hown7 (by omega)
        refine hrest g cap (m + 1) _ _ _ w7 rfl hG7 (steps_of_own hown7 fun i => ⟨?_, ?_⟩)
        · unfold moreS; split; exact (hgs _ (grown_refl _ _)).lt i |>.1; exact hx
        · unfold moreS; split; exact (hgs _ (grown_refl _ _)).lt i |>.2; exact hy
theorem walk {la lb : Option Addr} {n c m cm x y : Nat} {A B C X Y : Nat → Nat} {w : World} (hc : n ≤ c) (hn : n ≤ maxLen) (hp : PiecesAt w la n A B C) (_ : m ≤ cm) (hm : m ≤ maxLen) (hs : StepsAt w lb m X Y) (hx : x < 256) (hy : y < 256) (z1 : m * 2 ≤ 140737488351232) :
    Calls Try.prog 7 #[.slice la n c, .slice lb m cm, .agg #[.int .u8 x, .int .u8 y]] w fun e w' => e = .returned (.bool true) ∧ Below w.heap.size w w' :=
  (core hp hc hn hs z1 hx hy).mono fun e w' ⟨h1, h2⟩ => ⟨h1, grown_below h2⟩
theorem laidOut : laidOutB Try.prog = true := by kernel_rfl
/-! ### The row's step: the guide's frame -/
theorem own : ownKnob Try.prog.godebug = none := by kernel_rfl
set_option maxRecDepth 100000 in
theorem lifted (os : Os) (started : os.Started) (H : Type) (enc : TypeId × Value → H) :
    ReturnsInHanded {} Try.checked os 7 .any (Rows.ledgerApartSpec.pre6 enc Try.prog Try.f7 Rows.ledgerApartRow.domain false) (Rows.ledgerApartSpec.post enc Try.prog Try.f7 false true false false) := by
  refine returnsInHanded_of_change_sized (C := Try.checked) own started (by kernel_rfl) Try.func7
    (ChangeSpec.witness6 (enc := enc) (C := Try.checked) false ⟨#[], #[.slice none 0 0, .slice none 0 0, .agg #[.int .u8 0, .int .u8 0]], []⟩ 8 (by kernel_rfl) (by kernel_rfl) (by kernel_rfl) (by kernel_rfl)) ?_
  intro W base args ds gs before hval0 hW hcnd hsz _
  have hval : ∀ (j : Nat) t v, Try.f7.params[j]? = some t → args[j]? = some v → Value.okWide Try.prog W .any base t v := hval0
  have hW' := hW
  obtain ⟨p, q, hA0, hV, rfl, hfz, hnd⟩ := hW
  have hA : DataW.TrodAll enc Try.prog W 0 (fun _ => true) true Try.f7.params.toList args.toList ds p := hA0
  rw [Try.params7] at hA hval
  obtain ⟨v0, vs0, d0, ds0, p0, q0, hargs, rfl, rfl, h0, r0⟩ := trodAll_cons hA
  obtain ⟨v1, vs1, d1, ds1, p1, q1, rfl, rfl, rfl, h1, r1⟩ := trodAll_cons r0
  obtain ⟨v2, vs2, d2, ds2, p2, q2, rfl, rfl, rfl, h2, r2⟩ := trodAll_cons r1
  obtain ⟨rfl, rfl, rfl⟩ := trodAll_nil r2
  obtain rfl : args = #[v0, v1, v2] := by cases args; simp_all
  obtain ⟨rfl, rfl⟩ := trodVars_none hV
  have lt0 : ∀ x ∈ p0, x.block < W.heap.size := by obtain ⟨m, hm⟩ := h0; exact DataW.trod_lt m _ _ _ hm
  obtain ⟨la0, n0, c0, A0, B0, C0, rfl, hc0, hn0, hp0⟩ := open_pieces (hval 0 34 v0 rfl rfl) h0
  have lt1 : ∀ x ∈ p1, x.block < W.heap.size := by obtain ⟨m, hm⟩ := h1; exact DataW.trod_lt m _ _ _ hm
  obtain ⟨la1, n1, c1, A1, B1, rfl, hc1, hn1, hp1⟩ := open_steps (hval 1 35 v1 rfl rfl) h1
  have lt2 : ∀ x ∈ p2, x.block < W.heap.size := by obtain ⟨m, hm⟩ := h2; exact DataW.trod_lt m _ _ _ hm
  obtain ⟨x2, y2, rfl, hx2, hy2⟩ := open_step (hval 2 52 v2 rfl rfl) h2
  have z1 := steps_reach hsz (j := 1) rfl rfl h1
  clear hA0 hval0 hsz
  refine (walk hc0 hn0 hp0 hc1 hn1 hp1 hx2 hy2 z1).mono fun e W' ⟨he, bel⟩ => ?_
  subst he
  exact ⟨_, rfl, _, _, _, [], _, [], hW', trodAll_mk1 (shut_bool Try.underlying4 _), (trodAll_cons_mk (Below.trod laidOut (by kernel_rfl) (of_decide_eq_true (by kernel_rfl)) h0 bel lt0) (trodAll_cons_mk (Below.trod laidOut (by kernel_rfl) (of_decide_eq_true (by kernel_rfl)) h1 bel lt1) (trodAll_cons_mk (Below.trod laidOut (by kernel_rfl) (of_decide_eq_true (by kernel_rfl)) h2 bel lt2) trodAll_mk0))), rfl, bel.frame _, fun h => by cases h⟩

theorem over : Rows.ledgerApartRow.holds Try.pinned (OpenSpec.ofChange Rows.ledgerApartSpec) :=
  OpenClaim.holds_of_wide 7 Try.f7 rfl rfl rfl rfl rfl rfl rfl ⟨rfl, rfl, rfl, rfl, rfl⟩ rfl rfl rfl rfl rfl (by kernel_rfl) Try.func7 (by kernel_rfl)
    (of_decide_eq_true (by kernel_rfl)) (by unfold Func.isWrapper; first | (rw [if_pos (by decide +kernel)]; kernel_rfl) | (rw [if_neg (by decide +kernel)]; exact ⟨rfl, rfl⟩))
    (fun os started H enc _ => lifted os started H enc)

theorem proved : Rows.LedgerApartSaid :=
  over
#print axioms proved


end Go.Proofs.Ytkpopaadkfgjaaa.ledgerApart
