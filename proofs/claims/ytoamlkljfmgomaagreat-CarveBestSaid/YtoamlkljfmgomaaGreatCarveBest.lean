/-
  What is taken is carved from a smallest free block that fits; there is no room just if none does. The statement CarveBest; no condition.
-/
import Derived.Test.YtoamlkljfmgomaaGreatCarAb
import Derived.Test.YtoamlkljfmgomaaGreatAskO
import Derived.BigQuiet
import Derived.Deep.RegionHeld3
namespace Go.Proofs.YtoamlkljfmgomaaGreat.carveBest
open Go.ChangeShapes Go.WideShapes Go.ChangeAt Go.RowKit
set_option linter.unusedVariables false
set_option linter.unusedSimpArgs false
set_option maxRecDepth 100000

/-- the least size that fits, of so many blocks -/
def lsV (bs : List Blk) (need k : Nat) : Nat := match bestK (fitB need 16) bs k with | some i => gS bs i | none => 0
theorem pad_16 {off : Nat} (h : off % 16 = 0) : padN off 16 = 0 := by unfold padN; rw [if_pos (by omega)]
theorem fit_16 {bs : List Blk} {need k : Nat} (ho : gO bs k % 16 = 0) : fitB need 16 (bs.getD k default) = (!gU bs k && decide (need ≤ gS bs k)) := by
  rw [fitB_at, pad_16 ho, decide_eq_true (Nat.zero_le _), Bool.and_true]
theorem ls_zero {bs : List Blk} {need : Nat} : lsV bs need 0 = 0 := rfl
theorem ls_no {bs : List Blk} {need k : Nat} (ho : gO bs k % 16 = 0) (h : gU bs k = true ∨ ¬ need ≤ gS bs k ∨ (¬ lsV bs need k = 0 ∧ ¬ gS bs k < lsV bs need k)) : lsV bs need (k + 1) = lsV bs need k := by
  unfold lsV at h ⊢
  rw [bestK_next]
  have hf := fit_16 (need := need) ho
  cases e : bestK (fitB need 16) bs k with
  | none =>
    rw [e] at h
    dsimp only at h ⊢
    have hp : fitB need 16 (bs.getD k default) = false := by
      rw [hf]
      rcases h with h | h | h
      · rw [h]; rfl
      · rw [decide_eq_false h, Bool.and_false]
      · exact absurd rfl h.1
    rw [hp]
    rfl
  | some i =>
    rw [e] at h
    dsimp only at h ⊢
    have hp : ¬ (fitB need 16 (bs.getD k default) = true ∧ gS bs k < gS bs i) := fun hh => by
      rw [hf] at hh
      simp only [Bool.and_eq_true, Bool.not_eq_true', decide_eq_true_eq] at hh
      rcases h with h | h | h
      · rw [h] at hh; exact absurd hh.1.1 (by decide)
      · exact h hh.1.2
      · exact h.2 hh.2
    rw [if_neg hp]
theorem ls_yes {bs : List Blk} {need k : Nat} (ho : gO bs k % 16 = 0) (hu : gU bs k = false) (hn : need ≤ gS bs k) (h : lsV bs need k = 0 ∧ (∀ i, bestK (fitB need 16) bs k = some i → 0 < gS bs i) ∨ gS bs k < lsV bs need k) : lsV bs need (k + 1) = gS bs k := by
  unfold lsV at h ⊢
  rw [bestK_next]
  have hf := fit_16 (need := need) ho
  rw [hu, decide_eq_true hn] at hf
  cases e : bestK (fitB need 16) bs k with
  | none =>
    dsimp only
    rw [hf]
    rfl
  | some i =>
    rw [e] at h
    dsimp only at h ⊢
    have hlt : gS bs k < gS bs i := by
      rcases h with h | h
      · have := h.2 i rfl; omega
      · exact h
    rw [if_pos ⟨hf, hlt⟩]
section
variable {w0 w : World} {T : Nat} {R : Option Nat} {bs : List Blk} {L : Nat → List Nat}
theorem hw_read_free (h : HW w0 w T R (fmt48 4800) 4800 bs L) {i : Nat} (hi : i < bs.length) (hu : gU bs i = false) :
    Calls Tryz.prog 22 #[.pointer (some ⟨T, 0, none⟩), .int .u64 (gO bs i : Nat)] w fun e w' => e = .returned (.tuple #[.agg #[.int .u64 (gS bs i : Nat), .bool false, .int .i64 0], .int .i64 0]) ∧ w.grownBy w' none := by
  obtain ⟨h0, M, B, D, l, h1, h2⟩ := h
  have hb := h2.told.is _ (getB_mem hi)
  have hal := hb.al
  have hlo := hb.lo
  have hhi := hb.hi
  have hsz := hb.size
  have hu' : (bs.getD i default).u = false := hu
  have ho := (may_bounds hb.may).2.2.2.2.2 hu'
  obtain ⟨p1, p2, p3, p4, p5⟩ := unpack_int hb.may
  have hr : rdP (txSee (fmt48 4800) l) (bs.getD i default).off := by
    unfold rdP
    rw [hb.head, p3]
    refine ⟨p2, ?_, hb.foot⟩
    rw [h2.top]
    unfold inP
    omega
  have := tread_any h1.tx (gO bs i) (by show (bs.getD i default).off < _; omega)
  obtain ⟨r1, r2, r3, r4⟩ := rd_yes hr
  have e1 : gO bs i = (bs.getD i default).off := rfl
  rw [e1, r1, r2, r3, r4, hb.head, p3, p4, p5, hu', ho] at this
  exact this
theorem hw_read_zero (h : HW w0 w T R (fmt48 4800) 4800 bs L) :
    Calls Tryz.prog 22 #[.pointer (some ⟨T, 0, none⟩), .int .u64 0] w fun e w' => e = .returned (.tuple #[.agg #[.int .u64 0, .bool false, .int .i64 0], .int .i64 12]) ∧ w.grownBy w' none := by
  obtain ⟨h0, M, B, D, l, h1, h2⟩ := h
  have := tread_any h1.tx 0 (by decide)
  obtain ⟨r1, r2, r3, r4⟩ := rd_no (f := txSee (fmt48 4800) l) (off := 0) (fun h => by
    have := h.2.1
    unfold inP at this
    omega)
  rw [r1, r2, r3, r4] at this
  exact this
theorem hw_sizes (h : HW w0 w T R (fmt48 4800) 4800 bs L) : ∀ i, i < bs.length → 48 ≤ gS bs i := fun i hi => by
  obtain ⟨h0, M, B, D, l, h1, h2⟩ := h
  exact (h2.told.is _ (getB_mem hi)).size.1
end
set_option maxHeartbeats 16000000 in
theorem core {w : World} {la : Option Addr} {n c q : Nat} {O A N : Nat → Nat} (hp : PiecesAt w la n O A N) (hn : n ≤ maxLen) (hq : q < 65536) :
    Calls Tryz.prog 6 #[.slice la n c, .int .u16 q] w fun e w' => e = .returned (.bool true) ∧ w.grownBy w' none := by
  have htk := fun (V : World) (hg : w.grownBy V none) => taken10_any (c := c) (hp.later hg) hn
  obtain ⟨bs, hbs⟩ : ∃ bs, (tkS O A N (min n 20)).1 = bs := ⟨_, rfl⟩
  obtain ⟨L, hL⟩ : ∃ L, (tkS O A N (min n 20)).2 = L := ⟨_, rfl⟩
  rw [hbs, hL] at htk
  clear hbs hL
  have hnd := fun V => rneed_fits q (by omega) V
  have eq : IntKind.u64.wrap (q : Int) = (q : Nat) := by rw [IntKind.wrap_u64]; omega
  obtain ⟨need, hneed⟩ : ∃ need, needOf q = need := ⟨_, rfl⟩
  rw [hneed] at hnd
  have hnb := need_bounds q
  rw [hneed] at hnb
  have HND := Lib.hid hneed
  clear hneed
  go_enter Tryz.func6, Tryz.ntmps6
  go_wp2_with (first
    | (go_at_call 9; ((with_reducible refine (awake10 _).mono ?_); rintro e w1 ⟨rfl, hg1⟩))
    | (go_at_call 10; ((with_reducible refine (htk _ hg1).mono ?_); rintro e w2 ⟨T, R, v, rfl, H2, V2⟩; obtain ⟨l1, n1, c1, va, ln, vc, hv, hn1⟩ := V2.lie; subst hv; have ga := World.grownBy_alloc w2 (.cells #[.int .u64 4800, .slice l1 n1 c1, .slice (va 0) (ln 0) (vc 0), .slice (va 1) (ln 1) (vc 1), .slice (va 2) (ln 2) (vc 2), .slice (va 3) (ln 3) (vc 3), .slice (va 4) (ln 4) (vc 4), .slice (va 5) (ln 5) (vc 5), .slice (va 6) (ln 6) (vc 6), .slice (va 7) (ln 7) (vc 7)] 30) none; have B2 := heap_alloc_new' w2 (.cells #[.int .u64 4800, .slice l1 n1 c1, .slice (va 0) (ln 0) (vc 0), .slice (va 1) (ln 1) (vc 1), .slice (va 2) (ln 2) (vc 2), .slice (va 3) (ln 3) (vc 3), .slice (va 4) (ln 4) (vc 4), .slice (va 5) (ln 5) (vc 5), .slice (va 6) (ln 6) (vc 6), .slice (va 7) (ln 7) (vc 7)] 30); have HB2 := Lib.hid B2; clear B2; have H3 := H2.later ga; have V3 := V2.later ga; simp only [heapV, show ((4800 : Nat) : Int) = 4800 from rfl]; obtain ⟨⟨d0, d1, d2, d3, d4, d5, d6, d7, d8, d9⟩, _⟩ := ten_cells HB2.out))
    | (go_at_call 21; ((with_reducible refine (hnd _).mono ?_); rintro e3 w3 ⟨rfl, rfl⟩)))
  have hsz := hw_sizes H3
  have hbd := hw_bounds H3
  obtain ⟨W3, hW3⟩ : ∃ W3, w2.alloc (.cells #[.int .u64 4800, .slice l1 n1 c1, .slice (va 0) (ln 0) (vc 0), .slice (va 1) (ln 1) (vc 1), .slice (va 2) (ln 2) (vc 2), .slice (va 3) (ln 3) (vc 3), .slice (va 4) (ln 4) (vc 4), .slice (va 5) (ln 5) (vc 5), .slice (va 6) (ln 6) (vc 6), .slice (va 7) (ln 7) (vc 7)] 30) = W3 := ⟨_, rfl⟩
  rw [hW3] at ga HB2 H3 V3 ⊢
  obtain ⟨hb, ehb⟩ : ∃ hb, w2.heap.size = hb := ⟨_, rfl⟩
  rw [ehb] at HB2 ⊢
  clear d0 d1 d2 d3 d4 d5 d6 d7 d8 d9 htk hW3 ehb hnd
  obtain ⟨bl, vs, hve, hob, _⟩ := V3
  have hbl : bl = .slice l1 n1 c1 := by simp only [heapV, Value.agg.injEq, Array.mk.injEq, List.cons.injEq] at hve; exact hve.2.1.symm
  subst hbl
  obtain ⟨la5, c5, hbe, hat⟩ := hob.at_
  have hlen : n1 ≤ 1000 := by have := hw_few600 H3; omega
  have e5 : l1 = la5 := by injection hbe
  subst e5
  have HSZ := Lib.hid hsz
  have HBD := Lib.hid hbd
  have HN1 := Lib.hid hn1
  have HAT := Lib.hid hat
  clear hsz hbd hn1 hat hbe hve hob
  go_loopw [11, 12] (fun l i wr => ∃ k : Nat, k ≤ n1 ∧ i = .int .i64 k ∧ l = .int .u64 (lsV bs need k : Nat) ∧ W3.grownBy wr none) (fun _ i _ => n1 - (intOf i).toNat)
  case atStart => exact ⟨0, Nat.zero_le _, rfl, rfl, grown_refl _ _⟩
  case round =>
    obtain ⟨k, hk, rfl, rfl, hg⟩ := hrel
    rename_i wr
    obtain ⟨⟨_, d1, _⟩, _⟩ := ten_cells ((hg.block _ (lt_of_block HB2.out) (by simp)).trans HB2.out)
    by_cases hlt : k < n1
    · obtain ⟨b, o, rfl, hbl, hcs⟩ := (HAT.out.later hg).cells (by rw [HN1.out]; omega)
      have hk1 : k < bs.length := by rw [HN1.out]; exact hlt
      have s48 := HSZ.out k hk1
      have hO := (HBD.out k hk1).1
      have hS7 := (HBD.out k hk1).2.2
      obtain ⟨x0, ex0⟩ : ∃ x, gO bs k = x := ⟨_, rfl⟩
      obtain ⟨x1, ex1⟩ : ∃ x, gS bs k = x := ⟨_, rfl⟩
      obtain ⟨x2, ex2⟩ : ∃ x, gU bs k = x := ⟨_, rfl⟩
      obtain ⟨x3, ex3⟩ : ∃ x, gW bs k = x := ⟨_, rfl⟩
      obtain ⟨x4, ex4⟩ : ∃ x, gN bs k = x := ⟨_, rfl⟩
      obtain ⟨k0, k1, k2, k3, k4⟩ := hcs k hk1
      rw [ex0] at k0
      rw [ex1] at k1
      rw [ex2] at k2
      rw [ex3] at k3
      rw [ex4] at k4
      have hkn : (k : Int) < (n1 : Int) := by omega
      have ga5 := World.grownBy_alloc wr (.cells #[.int .u64 (x0 : Nat), .int .u64 (x1 : Nat), .bool x2, .int .i64 x3, .int .u64 (x4 : Nat)] 43) none
      have hend := grown_trans hg ga5
      have hno := fun h => ls_no (need := need) (bs := bs) (k := k) hO h
      have hyes := fun hu hn h => ls_yes (need := need) (bs := bs) (k := k) hO hu hn h
      rw [ex1, ex2] at hno hyes
      have hpos : ∀ i, bestK (fitB need 16) bs k = some i → 0 < gS bs i := fun i hi => by
        have := bestK_is (fitB need 16) bs k
        rw [hi] at this
        have := HSZ.out i (by have := this.1; omega)
        omega
      obtain ⟨l, hl⟩ : ∃ l, lsV bs need k = l := ⟨_, rfl⟩
      obtain ⟨l', hl'⟩ : ∃ l', lsV bs need (k + 1) = l' := ⟨_, rfl⟩
      rw [hl, hl'] at hno hyes
      rw [hl]
      have HL' := Lib.hid hl'
      clear ex0 ex1 ex2 ex3 ex4 hl hl' hcs
      have HNO := Lib.hid hno
      have HYES := Lib.hid hyes
      have HPOS := Lib.hid hpos
      clear hno hyes hpos
      cases x2 with
      | true =>
        have e' := HNO.out (.inl rfl)
        go_wp2
        go_roundw
        case rel => exact ⟨k + 1, by omega, by go_num, by rw [HL'.out, e'], hend⟩
        case measure => simp [intOf]; omega
      | false =>
        by_cases hn3 : need ≤ x1
        · have i1 : (need : Int) ≤ (x1 : Int) := by omega
          by_cases hl0 : l = 0
          · have e' := HYES.out rfl hn3 (.inl ⟨hl0, HPOS.out⟩)
            have HL0 := Lib.hid hl0
            have i2 : (l : Int) = 0 := by omega
            clear hl0
            go_wp2
            go_roundw
            case rel => exact ⟨k + 1, by omega, by go_num, by rw [HL'.out, e'], hend⟩
            case measure => simp [intOf]; omega
          · have i2 : ¬ (l : Int) = 0 := by omega
            by_cases hlx : x1 < l
            · have e' := HYES.out rfl hn3 (.inr hlx)
              have i3 : (x1 : Int) < (l : Int) := by omega
              go_wp2
              go_roundw
              case rel => exact ⟨k + 1, by omega, by go_num, by rw [HL'.out, e'], hend⟩
              case measure => simp [intOf]; omega
            · have e' := HNO.out (.inr (.inr ⟨hl0, hlx⟩))
              have i3 : ¬ (x1 : Int) < (l : Int) := by omega
              go_wp2
              go_roundw
              case rel => exact ⟨k + 1, by omega, by go_num, by rw [HL'.out, e'], hend⟩
              case measure => simp [intOf]; omega
        · have i1 : ¬ (need : Int) ≤ (x1 : Int) := by omega
          have e' := HNO.out (.inr (.inl hn3))
          go_wp2
          go_roundw
          case rel => exact ⟨k + 1, by omega, by go_num, by rw [HL'.out, e'], hend⟩
          case measure => simp [intOf]; omega
    · obtain rfl : k = n1 := by omega
      have hbk : lsV bs need k = lsV bs need bs.length := by rw [HN1.out]
      have hG := grown_trans ga hg
      cases hf : fitM bs q 16 with
      | some i =>
        have hfi := fitM_is hf
        have hls : lsV bs need k = gS bs i := by
          rw [hbk]
          unfold lsV
          rw [← HND.out]
          unfold fitM at hf
          rw [hf]
        have h48 := HSZ.out i hfi.1
        have hpd : padN (gO bs i) 16 = 0 := pad_16 (HBD.out i hfi.1).1
        have hft := fun (V : World) (hV : wr.grownBy V none) => hw_fit_ok (H3.later (grown_trans hg hV)) (n := q) (a := 16) (.inl rfl) (by omega) hf
        rw [hpd] at hft
        replace hft : ∀ V : World, wr.grownBy V none → Calls Tryz.prog 11 #[.pointer (some ⟨T, 0, none⟩), .int .u64 q, .int .u64 16] V fun e w' => e = .returned (.tuple #[.agg #[.int .u64 (gO bs i : Nat), .int .u64 0, .int .u64 (needOf q : Nat)], .int .i64 0]) ∧ V.grownBy w' none := hft
        have hrd := fun (V : World) (hV : wr.grownBy V none) => hw_read_free (H3.later (grown_trans hg hV)) hfi.1 hfi.2.1
        obtain ⟨x, hx⟩ : ∃ x, gO bs i = x := ⟨_, rfl⟩
        obtain ⟨z, hz⟩ : ∃ z, gS bs i = z := ⟨_, rfl⟩
        obtain ⟨y, hy⟩ : ∃ y, needOf q = y := ⟨_, rfl⟩
        rw [hx, hy] at hft
        rw [hx, hz] at hrd
        rw [hz] at hls h48
        rw [hls]
        have z0 : ¬ (z : Int) = 0 := by omega
        clear hx hy hz hls hbk hf hfi hpd h48
        go_wp2_with (first
          | (go_at_call 11; ((with_reducible refine (hft _ (grown_refl _ _)).mono ?_); rintro e4 w4 ⟨rfl, hg4⟩; have gb := World.grownBy_alloc w4 (.cells #[.int .u64 (x : Nat), .int .u64 0, .int .u64 (y : Nat)] 34) none; have P4 := heap_alloc_new' w4 (.cells #[.int .u64 (x : Nat), .int .u64 0, .int .u64 (y : Nat)] 34); obtain ⟨p0, p1, p2⟩ := tag_cells P4; have HP4 := Lib.hid P4; clear P4; have G4 := grown_trans hg4 gb))
          | (go_at_call 22; ((with_reducible refine (hrd _ G4).mono ?_); rintro e5 w5 ⟨rfl, hg5⟩; have gc := World.grownBy_alloc w5 (.cells #[.int .u64 (z : Nat), .bool false, .int .i64 0] 64) none; have P5 := heap_alloc_new' w5 (.cells #[.int .u64 (z : Nat), .bool false, .int .i64 0] 64); obtain ⟨t0, t1, t2⟩ := tag_cells P5; obtain ⟨p0, p1, p2⟩ := tag_cells (((grown_trans hg5 gc).block _ (lt_of_block HP4.out) (by simp)).trans HP4.out); clear P5; have G5 := grown_trans G4 (grown_trans hg5 gc))))
        go_ret
        exact ⟨rfl, grown_trans hg1 (grown_trans H2.since (grown_trans hG G5))⟩
      | none =>
        have hls : lsV bs need k = 0 := by
          rw [hbk]
          unfold lsV
          rw [← HND.out]
          unfold fitM at hf
          rw [hf]
        have hft : ∀ V : World, wr.grownBy V none → Calls Tryz.prog 11 #[.pointer (some ⟨T, 0, none⟩), .int .u64 q, .int .u64 16] V fun e w' => e = .returned (.tuple #[.agg #[.int .u64 0, .int .u64 0, .int .u64 0], .int .i64 3]) ∧ V.grownBy w' none := fun V hV => hw_fit_bad (H3.later (grown_trans hg hV)) (n := q) (a := 16) (by omega) (by decide) (fitErr_none (.inl rfl) (by omega) hf) (by decide)
        have hrd := fun (V : World) (hV : wr.grownBy V none) => hw_read_zero (H3.later (grown_trans hg hV))
        rw [hls]
        clear hls hbk hf
        go_wp2_with (first
          | (go_at_call 11; ((with_reducible refine (hft _ (grown_refl _ _)).mono ?_); rintro e4 w4 ⟨rfl, hg4⟩; have gb := World.grownBy_alloc w4 (.cells #[.int .u64 0, .int .u64 0, .int .u64 0] 34) none; have P4 := heap_alloc_new' w4 (.cells #[.int .u64 0, .int .u64 0, .int .u64 0] 34); obtain ⟨p0, p1, p2⟩ := tag_cells P4; have HP4 := Lib.hid P4; clear P4; have G4 := grown_trans hg4 gb))
          | (go_at_call 22; ((with_reducible refine (hrd _ G4).mono ?_); rintro e5 w5 ⟨rfl, hg5⟩; have gc := World.grownBy_alloc w5 (.cells #[.int .u64 0, .bool false, .int .i64 0] 64) none; have G5 := grown_trans G4 (grown_trans hg5 gc))))
        go_ret
        exact ⟨rfl, grown_trans hg1 (grown_trans H2.since (grown_trans hG G5))⟩
theorem walk {w : World} {la : Option Addr} {n c : Nat} {O A N : Nat → Nat} (hc : n ≤ c) (hn : n ≤ maxLen) (hp : PiecesAt w la n O A N) (s : Int) (ws : (Lit.int .u16 s).wf = true) :
    Calls Tryz.prog 6 #[.slice la n c, .int .u16 s] w fun e w' => e = .returned (.bool true) ∧ Below w.heap.size w w' := by
  have b1 := bounds_u16 ws
  obtain ⟨s', rfl⟩ := Int.eq_ofNat_of_zero_le b1.1
  exact (core hp hn (by omega)).mono fun e w' ⟨h1, h2⟩ => ⟨h1, grown_below h2⟩
theorem laidOut : laidOutB Tryz.prog = true := by kernel_rfl
/-! ### The row's step: the guide's frame -/
theorem own : ownKnob Tryz.prog.godebug = none := by kernel_rfl
set_option maxRecDepth 100000 in
theorem lifted (os : Os) (started : os.Started) (H : Type) (enc : TypeId × Value → H) :
    ReturnsInHanded {} Tryz.checked os 6 .any (Rows.carveBestSpec.pre6 enc Tryz.prog Tryz.f6 Rows.carveBestRow.domain false) (Rows.carveBestSpec.post enc Tryz.prog Tryz.f6 false true false false) := by
  refine returnsInHanded_of_change (C := Tryz.checked) own started (by kernel_rfl) Tryz.func6
    (ChangeSpec.witness6 (enc := enc) (C := Tryz.checked) false ⟨#[], #[.slice none 0 0, .int .u16 0], []⟩ 8 (by kernel_rfl) (by kernel_rfl) (by kernel_rfl) (by kernel_rfl)) ?_
  intro W base args ds gs before hval0 hW hcnd _
  have hval : ∀ (j : Nat) t v, Tryz.f6.params[j]? = some t → args[j]? = some v → Value.okWide Tryz.prog W .any base t v := hval0
  have hW' := hW
  obtain ⟨p, q, hA0, hV, rfl, hfz, hnd⟩ := hW
  have hA : DataW.TrodAll enc Tryz.prog W 0 (fun _ => true) true Tryz.f6.params.toList args.toList ds p := hA0
  rw [Tryz.params6] at hA hval
  obtain ⟨v0, vs0, d0, ds0, p0, q0, hargs, rfl, rfl, h0, r0⟩ := trodAll_cons hA
  obtain ⟨v1, vs1, d1, ds1, p1, q1, rfl, rfl, rfl, h1, r1⟩ := trodAll_cons r0
  obtain ⟨rfl, rfl, rfl⟩ := trodAll_nil r1
  obtain rfl : args = #[v0, v1] := by cases args; simp_all
  obtain ⟨rfl, rfl⟩ := trodVars_none hV
  have lt0 : ∀ x ∈ p0, x.block < W.heap.size := by obtain ⟨m, hm⟩ := h0; exact DataW.trod_lt m _ _ _ hm
  obtain ⟨la0, n0, c0, A0, B0, C0, rfl, hc0, hn0, hp0⟩ := open_asks (hval 0 22 v0 rfl rfl) h0
  obtain ⟨a1, rfl, rfl, rfl, w1⟩ := open_int Tryz.underlying60 (hval 1 60 v1 rfl rfl) h1
  clear hA0 hval0
  refine (walk hc0 hn0 hp0 a1 w1).mono fun e W' ⟨he, bel⟩ => ?_
  subst he
  exact ⟨_, rfl, _, _, _, [], _, [], hW', trodAll_mk1 (shut_bool Tryz.underlying4 _), (trodAll_cons_mk (Below.trod laidOut (by kernel_rfl) (of_decide_eq_true (by kernel_rfl)) h0 bel lt0) (trodAll_cons_mk (shut_int Tryz.underlying60 w1) trodAll_mk0)), rfl, bel.frame _, fun h => by cases h⟩

theorem over : Rows.carveBestRow.holds Tryz.pinned (OpenSpec.ofChange Rows.carveBestSpec) :=
  OpenClaim.holds_of_wide 6 Tryz.f6 rfl rfl rfl rfl rfl rfl rfl ⟨rfl, rfl, rfl, rfl, rfl⟩ rfl rfl rfl rfl rfl (by kernel_rfl) Tryz.func6 (by kernel_rfl)
    (of_decide_eq_true (by kernel_rfl)) (by unfold Func.isWrapper; first | (rw [if_pos (by decide +kernel)]; kernel_rfl) | (rw [if_neg (by decide +kernel)]; exact ⟨rfl, rfl⟩))
    (fun os started H enc _ => lifted os started H enc)

theorem proved : Rows.CarveBestSaid :=
  over
#print axioms proved


end Go.Proofs.YtoamlkljfmgomaaGreat.carveBest
