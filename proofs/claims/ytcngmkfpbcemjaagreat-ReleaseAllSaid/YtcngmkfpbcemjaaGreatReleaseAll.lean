/-
  When all is freed, in any turn, there is one free block, as large as the heap. The statement ReleaseAll; no condition.
-/
import Derived.Test.YtcngmkfpbcemjaaGreatLRek
import Derived.Test.YtcngmkfpbcemjaaGreatRelU
import Derived.Test.YtcngmkfpbcemjaaGreatLPhd
import Derived.BigQuiet
import Derived.Deep.RegionHeld3
namespace Go.Proofs.YtcngmkfpbcemjaaGreat.releaseAll
open Go.ChangeShapes Go.WideShapes Go.ChangeAt Go.RowKit
set_option linter.unusedVariables false
set_option linter.unusedSimpArgs false
set_option maxRecDepth 100000

/-- the heap, behind so many that are freed -/
def afS (bs : List Blk) (L : Nat → List Nat) (A : Nat → Nat) : Nat → List Blk × (Nat → List Nat)
  | 0 => (bs, L)
  | k + 1 => (frB (afS bs L A k).1 (payB (afS bs L A k).1 (A k)), frL (afS bs L A k).1 (afS bs L A k).2 (payB (afS bs L A k).1 (A k)))
theorem HW.lists {w0 w : World} {T : Nat} {R : Option Nat} {ws : List Nat} {E : Nat} {bs : List Blk} {L L' : Nat → List Nat} (h : HW w0 w T R ws E bs L) (hl : ∀ c, c < 8 → L c = L' c) : HW w0 w T R ws E bs L' := by
  obtain ⟨h0, M, B, D, l, h1, h2⟩ := h
  exact ⟨h0, M, B, D, l, h1, h2.lists hl⟩
theorem HW.all {w0 w : World} {T : Nat} {R : Option Nat} {ws : List Nat} {E : Nat} {bs : List Blk} {L : Nat → List Nat} (h : HW w0 w T R ws E bs L) (hE : 4800 = E) (hu : (usedB bs).length ≤ 0) : bs = [freeB 3776 1024] ∧ HW w0 w T R ws E bs fun _ => [] := by
  subst hE
  have hu' : usedB bs = [] := List.length_eq_zero_iff.1 (by omega)
  have h' := h
  obtain ⟨h0, M, B, D, l, h1, h2⟩ := h
  exact ⟨all_free h2 hu', HW.lists h' fun c hc => no_lists h2 hu' hc⟩
theorem HW.less {w0 w : World} {T : Nat} {R : Option Nat} {ws : List Nat} {E : Nat} {bs : List Blk} {L : Nat → List Nat} (h : HW w0 w T R ws E bs L) (a : Nat) : (usedB (frB bs (payB bs a))).length = (usedB bs).length - 1 := by
  obtain ⟨h0, M, B, D, l, h1, h2⟩ := h
  exact free_less h2 a
/-- A Tx, and the heap in a box, of a call that began at w. -/
def AlW (w : World) (hb T E : Nat) (bs : List Blk) (L : Nat → List Nat) (wr : World) : Prop :=
  ∃ (R : Option Nat) (la : Option Addr) (n c : Nat) (va : Nat → Option Addr) (ln vc : Nat → Nat), HW w wr T R (fmt48 4800) E bs L ∧ HvK wr R w.heap.size (heapV E (.slice la n c) (fun c => .slice (va c) (ln c) (vc c))) E bs L ∧ wr.heap[hb]? = some (.cells (hC E la n c va ln vc) 30 (0, 0))
set_option maxHeartbeats 8000000 in
theorem core {w : World} {la la2 : Option Addr} {n c m c2 : Nat} {X O A N B : Nat → Nat} (hp : DoneAt w la n X O A N) (hn : n ≤ maxLen) (hbt : BytesAt w la2 m B) (hm : m ≤ maxLen) :
    Calls Tryz.prog 5 #[.slice la n c, .slice la2 m c2] w fun e w' => e = .returned (.bool true) ∧ w.grownBy w' none := by
  obtain ⟨E, bs, L, hE, hu25, hpl⟩ := plays (c := c) hp hn
  have hnw : ∀ w, Calls Tryz.prog 19 #[.int .u64 4800] w fun e w' => ∃ v, e = .returned v ∧ HvIs w' w.heap.size v E [freeB 3776 1024] (fun _ => []) ∧ w.grownBy w' none := fun w => by
    rw [← hE]
    exact rnew10_any 4800 (by decide) (by decide) w
  have HE := Lib.hid hE
  have HBT := Lib.hid hbt
  unfold maxLen at hm
  clear hE hp hn hbt
  go_enter Tryz.func5, Tryz.ntmps5
  go_wp2_with (first
    | (go_at_call 9; ((with_reducible refine (awake11 _).mono ?_); rintro e w1 ⟨rfl, hg1⟩))
    | (go_at_call 10; ((with_reducible refine (hpl _ hg1).mono ?_); rintro e w2 ⟨T, R, l1, n1, c1, va, ln, vc, rfl, H2, V2⟩; have ga2 := World.grownBy_alloc w2 (.cells (hC E l1 n1 c1 va ln vc) 30) none; have B2 := heap_alloc_new' w2 (.cells (hC E l1 n1 c1 va ln vc) 30); have H3 := H2.later ga2; have V3 := V2.later ga2)))
  obtain ⟨hb, ehb⟩ : ∃ hb, w2.heap.size = hb := ⟨_, rfl⟩
  have hwb : w1.heap.size ≤ hb := by rw [← ehb]; exact H2.since.size
  obtain ⟨W4, eW4⟩ : ∃ W4, w2.alloc (.cells (hC E l1 n1 c1 va ln vc) 30) = W4 := ⟨_, rfl⟩
  rw [eW4] at ga2 B2 H3 V3 ⊢
  rw [ehb] at B2 ⊢
  obtain ⟨F, hF⟩ : ∃ F, afS bs L (fun i => if i < m then B i else 0) = F := ⟨_, rfl⟩
  have hF0 : F 0 = (bs, L) := by rw [← hF]; rfl
  have hFk : ∀ k, F (k + 1) = (frB (F k).1 (payB (F k).1 (if k < m then B k else 0)), frL (F k).1 (F k).2 (payB (F k).1 (if k < m then B k else 0))) := fun k => by rw [← hF]; rfl
  have HFK := Lib.hid hFk
  have HW1 := Lib.hid hwb
  have H0 : AlW w1 hb T E (F 0).1 (F 0).2 W4 ∧ (usedB (F 0).1).length ≤ 25 - 0 := by
    rw [hF0]
    exact ⟨⟨R, l1, n1, c1, va, ln, vc, H3, V3, B2⟩, hu25⟩
  have HG1 := Lib.hid hg1
  clear hF hF0 hFk hwb H2 V2 H3 V3 B2 ga2 ehb eW4 hu25 hpl hg1
  go_loopw [9] (fun i wr => ∃ k : Nat, k ≤ 30 ∧ i = .int .i64 k ∧ AlW w1 hb T E (F k).1 (F k).2 wr ∧ (usedB (F k).1).length ≤ 25 - k) (fun i _ => 30 - (intOf i).toNat)
  case atStart => exact ⟨0, Nat.zero_le _, rfl, H0⟩
  case round =>
    obtain ⟨k, hk, rfl, ⟨R1, l1, n1, c1, va, ln, vc, hH, hV, hB⟩, hU⟩ := hrel
    rename_i wr
    clear H0
    by_cases hlt : k < 30
    · have hk30 : (k : Int) < 30 := by omega
      have hs1 := HFK.out k
      obtain ⟨s, hs⟩ : ∃ s, F k = s := ⟨_, rfl⟩
      rw [hs] at hH hV hU hs1
      have hq : (if k < m then B k else 0) < 256 := by
        split
        · exact HBT.out.lt k
        · decide
      have hq0 : k < m → (if k < m then B k else 0) = B k := fun h => if_pos h
      have hq1 : ¬ k < m → (if k < m then B k else 0) = 0 := fun h => if_neg h
      obtain ⟨q, eq⟩ : ∃ q, (if k < m then B k else 0) = q := ⟨_, rfl⟩
      rw [eq] at hq hq0 hq1 hs1
      have hls := HW.less hH q
      have hpay := fun (V : World) (hg : wr.grownBy V none) => rpayload10_any (hV.later hg).is (by have := hw_few600 hH; omega) (hw_bounds hH) q (by omega)
      obtain ⟨P, hP⟩ : ∃ P, payB s.1 q = P := ⟨_, rfl⟩
      rw [hP] at hls hs1
      simp only [hP] at hpay
      have hfc := fun (W : World) (R : Option Nat) (h : HW w1 W T R (fmt48 4800) E s.1 s.2) => fr_code h P
      have hfr := fun (W V' : World) (R R' : Option Nat) (v : Value) (h : HW w1 W T R (fmt48 4800) E s.1 s.2) (hR : ∀ g, R' = some g → g < V'.heap.size) (hv : HvK V' R' w1.heap.size v E s.1 s.2) (hb : w1.heap.size ≤ V'.heap.size) => fr_ref h hR hv hb P
      obtain ⟨fe, hfe⟩ : ∃ fe, frE s.1 P = fe := ⟨_, rfl⟩
      rw [hfe] at hfc hfr
      have ee : ((fe : Int) != (fe : Int)) = false := by simp
      have HS1 := Lib.hid hs1
      have HU1 := Lib.hid (show (usedB (frB s.1 P)).length ≤ 25 - (k + 1) by omega)
      have HB := Lib.hid hB
      obtain ⟨⟨x0, x1, x2, x3, x4, x5, x6, x7, x8, x9⟩, _⟩ := ten_cells hB
      simp only [heapV] at hV hpay
      have hcell : k < m → ∃ b off, la2 = some ⟨b, off, none⟩ ∧ wr.cell? ⟨b, off + k, none⟩ = some (.int .u8 q) := fun h => by
        obtain ⟨b, off, e, _, hc⟩ := (HBT.out.later (grown_trans HG1.out hH.since)).cells (by omega)
        exact ⟨b, off, e, by rw [hq0 h]; exact hc k h⟩
      have wq : IntKind.i64.wrap (q : Int) = (q : Nat) := by rw [IntKind.wrap_i64]; omega
      clear hq0 eq hls hs1 hs hP hfe hB hU hq
      by_cases hkm : k < m
      · obtain ⟨b, off, rfl, hc⟩ := hcell hkm
        have hkm' : (k : Int) < (m : Int) := by omega
        clear hcell hq1 hkm
        go_wp2_with (first
          | (go_at_call 17; ((with_reducible refine (hpay _ (grown_refl _ none)).mono ?_); rintro e3 w3 ⟨rfl, hg3⟩; have H3 := hH.later hg3; have V3 := hV.later hg3; have B3 := (hg3.block _ (lt_of_block HB.out) (by simp)).trans HB.out; obtain ⟨⟨d0, d1, d2, d3, d4, d5, d6, d7, d8, d9⟩, _⟩ := ten_cells B3; have HB3 := Lib.hid B3; clear B3; have hfc1 := hfc _ _ H3))
          | (go_at_call 14; ((with_reducible refine hfc1.mono ?_); rintro e5 w5 ⟨rfl, R5, H5, K5⟩; have B5 := K5.far HB3.out (by decide) (by decide); obtain ⟨⟨f0, f1, f2, f3, f4, f5, f6, f7, f8, f9⟩, _⟩ := ten_cells B5; have HB5 := Lib.hid B5; clear B5; have hfr1 := hfr _ w5 _ R5 _ H3 (fun g e => H5.newR e) (V3.step K5) H5.since.size))
          | (go_at_call 15; ((with_reducible refine hfr1.mono ?_); rintro e6 w6 ⟨v6, rfl, V6, hg6⟩; obtain ⟨l6, n6, c6, va6, ln6, vc6, hv6, _⟩ := V6.lie; subst hv6; simp only [heapV] at V6 ⊢; have ga6 := World.grownBy_alloc w6 (.cells (hC E l6 n6 c6 va6 ln6 vc6) 30) none; have P9 := heap_alloc_new' w6 (.cells (hC E l6 n6 c6 va6 ln6 vc6) 30); obtain ⟨⟨y0, y1, y2, y3, y4, y5, y6, y7, y8, y9⟩, _⟩ := ten_cells P9; have G9 := grown_trans hg6 ga6; have B9 := (G9.block _ (lt_of_block HB5.out) (by simp)).trans HB5.out; obtain ⟨⟨z0, z1, z2, z3, z4, z5, z6, z7, z8, z9⟩, rf⟩ := ten_cells B9; have rf0 := rf 0 (by decide); have rf1 := rf 1 (by decide); have rf2 := rf 2 (by decide); have rf3 := rf 3 (by decide); have rf4 := rf 4 (by decide); have rf5 := rf 5 (by decide); have rf6 := rf 6 (by decide); have rf7 := rf 7 (by decide); have rf8 := rf 8 (by decide); have rf9 := rf 9 (by decide); have HB9 := Lib.hid B9; clear rf B9; have HP9 := Lib.hid P9; clear P9)))
        obtain ⟨P8, Q8⟩ := ten_put (y0 := .int .u64 E) (y1 := .slice l6 n6 c6) (y2 := .slice (va6 0) (ln6 0) (vc6 0)) (y3 := .slice (va6 1) (ln6 1) (vc6 1)) (y4 := .slice (va6 2) (ln6 2) (vc6 2)) (y5 := .slice (va6 3) (ln6 3) (vc6 3)) (y6 := .slice (va6 4) (ln6 4) (vc6 4)) (y7 := .slice (va6 5) (ln6 5) (vc6 5)) (y8 := .slice (va6 6) (ln6 6) (vc6 6)) (y9 := .slice (va6 7) (ln6 7) (vc6 7)) HB9.out
        have H8 := (H5.later G9).other HB9.out (by decide) (by decide) (by decide) (by decide) HW1.out Q8
        have V8 := (V6.later ga6).other HB9.out (by decide) (by decide) Q8
        go_roundw
        case rel => exact ⟨k + 1, by omega, by go_num, ⟨R5, l6, n6, c6, va6, ln6, vc6, by rw [HS1.out]; exact H8, by rw [HS1.out]; exact V8, P8⟩, by rw [HS1.out]; exact HU1.out⟩
        case measure => simp [intOf]; omega
      · obtain rfl := hq1 hkm
        have hkm' : ¬ (k : Int) < (m : Int) := by omega
        replace hpay : ∀ V : World, wr.grownBy V none → Calls Tryz.prog 17 #[.agg (hC E l1 n1 c1 va ln vc), .int .i64 0] V fun e w' => e = .returned (.int .u64 (P : Nat)) ∧ V.grownBy w' none := hpay
        clear hcell hq1 hkm wq
        go_wp2_with (first
          | (go_at_call 17; ((with_reducible refine (hpay _ (grown_refl _ none)).mono ?_); rintro e3 w3 ⟨rfl, hg3⟩; have H3 := hH.later hg3; have V3 := hV.later hg3; have B3 := (hg3.block _ (lt_of_block HB.out) (by simp)).trans HB.out; obtain ⟨⟨d0, d1, d2, d3, d4, d5, d6, d7, d8, d9⟩, _⟩ := ten_cells B3; have HB3 := Lib.hid B3; clear B3; have hfc1 := hfc _ _ H3))
          | (go_at_call 14; ((with_reducible refine hfc1.mono ?_); rintro e5 w5 ⟨rfl, R5, H5, K5⟩; have B5 := K5.far HB3.out (by decide) (by decide); obtain ⟨⟨f0, f1, f2, f3, f4, f5, f6, f7, f8, f9⟩, _⟩ := ten_cells B5; have HB5 := Lib.hid B5; clear B5; have hfr1 := hfr _ w5 _ R5 _ H3 (fun g e => H5.newR e) (V3.step K5) H5.since.size))
          | (go_at_call 15; ((with_reducible refine hfr1.mono ?_); rintro e6 w6 ⟨v6, rfl, V6, hg6⟩; obtain ⟨l6, n6, c6, va6, ln6, vc6, hv6, _⟩ := V6.lie; subst hv6; simp only [heapV] at V6 ⊢; have ga6 := World.grownBy_alloc w6 (.cells (hC E l6 n6 c6 va6 ln6 vc6) 30) none; have P9 := heap_alloc_new' w6 (.cells (hC E l6 n6 c6 va6 ln6 vc6) 30); obtain ⟨⟨y0, y1, y2, y3, y4, y5, y6, y7, y8, y9⟩, _⟩ := ten_cells P9; have G9 := grown_trans hg6 ga6; have B9 := (G9.block _ (lt_of_block HB5.out) (by simp)).trans HB5.out; obtain ⟨⟨z0, z1, z2, z3, z4, z5, z6, z7, z8, z9⟩, rf⟩ := ten_cells B9; have rf0 := rf 0 (by decide); have rf1 := rf 1 (by decide); have rf2 := rf 2 (by decide); have rf3 := rf 3 (by decide); have rf4 := rf 4 (by decide); have rf5 := rf 5 (by decide); have rf6 := rf 6 (by decide); have rf7 := rf 7 (by decide); have rf8 := rf 8 (by decide); have rf9 := rf 9 (by decide); have HB9 := Lib.hid B9; clear rf B9; have HP9 := Lib.hid P9; clear P9)))
        obtain ⟨P8, Q8⟩ := ten_put (y0 := .int .u64 E) (y1 := .slice l6 n6 c6) (y2 := .slice (va6 0) (ln6 0) (vc6 0)) (y3 := .slice (va6 1) (ln6 1) (vc6 1)) (y4 := .slice (va6 2) (ln6 2) (vc6 2)) (y5 := .slice (va6 3) (ln6 3) (vc6 3)) (y6 := .slice (va6 4) (ln6 4) (vc6 4)) (y7 := .slice (va6 5) (ln6 5) (vc6 5)) (y8 := .slice (va6 6) (ln6 6) (vc6 6)) (y9 := .slice (va6 7) (ln6 7) (vc6 7)) HB9.out
        have H8 := (H5.later G9).other HB9.out (by decide) (by decide) (by decide) (by decide) HW1.out Q8
        have V8 := (V6.later ga6).other HB9.out (by decide) (by decide) Q8
        go_roundw
        case rel => exact ⟨k + 1, by omega, by go_num, ⟨R5, l6, n6, c6, va6, ln6, vc6, by rw [HS1.out]; exact H8, by rw [HS1.out]; exact V8, P8⟩, by rw [HS1.out]; exact HU1.out⟩
        case measure => simp [intOf]; omega
    · obtain rfl : k = 30 := by omega
      obtain ⟨hb1, hH1⟩ := HW.all hH HE.out (by omega)
      rw [hb1] at hH1 hV
      have HB := Lib.hid hB
      have hcell : ∀ {V : World}, wr.grownBy V none → at10 hb E l1 n1 c1 va ln vc V := fun {V} hg => at10_of ((hg.block _ (lt_of_block HB.out) (by simp)).trans HB.out)
      have HG : wr.grownBy wr.drew none := grown_drew (grown_refl _ _)
      obtain ⟨x0, x1, x2, x3, x4, x5, x6, x7, x8, x9⟩ := hcell HG
      simp only [heapV] at hV
      have hl1 : ([freeB 3776 1024] : List Blk).length ≤ 1000000 := by decide
      clear hb1 hH hU hB hk
      go_wp2
      go_region_held3 (fun w' => at10 hb E l1 n1 c1 va ln vc w') (first | (with_reducible exact hcell HG)) (first
        | (go_at_call 19; ((with_reducible refine (hnw _).mono ?_); rintro eA wA ⟨vA, rfl, hvA, hgA⟩; replace HG := grown_trans HG hgA; have hsm := rsame11_any (hV.later HG).is hvA hl1; have hso := sound11_any (hH1.later HG) hvA; obtain ⟨x0, x1, x2, x3, x4, x5, x6, x7, x8, x9⟩ := hcell HG))
        | (go_at_call 18; ((with_reducible refine hsm.mono ?_); rintro eB wB ⟨rfl, hgB⟩; replace HG := grown_trans HG hgB; obtain ⟨x0, x1, x2, x3, x4, x5, x6, x7, x8, x9⟩ := hcell HG))
        | (go_at_call 11; ((with_reducible refine hso.mono ?_); rintro eC wC ⟨rfl, hgC⟩; replace HG := grown_trans HG hgC; obtain ⟨x0, x1, x2, x3, x4, x5, x6, x7, x8, x9⟩ := hcell HG)))
      go_wp2
      go_ret
      exact ⟨rfl, grown_trans HG1.out (grown_trans hH1.since HG)⟩
theorem walk {w : World} {la la2 : Option Addr} {n c m c2 : Nat} {X O A N B : Nat → Nat} (hc : n ≤ c) (hn : n ≤ maxLen) (hp : DoneAt w la n X O A N) (hc2 : m ≤ c2) (hm : m ≤ maxLen) (hb : BytesAt w la2 m B) :
    Calls Tryz.prog 5 #[.slice la n c, .slice la2 m c2] w fun e w' => e = .returned (.bool true) ∧ Below w.heap.size w w' := by
  exact (core hp hn hb hm).mono fun e w' ⟨h1, h2⟩ => ⟨h1, grown_below h2⟩
theorem laidOut : laidOutB Tryz.prog = true := by kernel_rfl
/-! ### The row's step: the guide's frame -/
theorem own : ownKnob Tryz.prog.godebug = none := by kernel_rfl
set_option maxRecDepth 100000 in
theorem lifted (os : Os) (started : os.Started) (H : Type) (enc : TypeId × Value → H) :
    ReturnsInHanded {} Tryz.checked os 5 .any (Rows.releaseAllSpec.pre6 enc Tryz.prog Tryz.f5 Rows.releaseAllRow.domain false) (Rows.releaseAllSpec.post enc Tryz.prog Tryz.f5 false true false false) := by
  refine returnsInHanded_of_change (C := Tryz.checked) own started (by kernel_rfl) Tryz.func5
    (ChangeSpec.witness6 (enc := enc) (C := Tryz.checked) false ⟨#[], #[.slice none 0 0, .slice none 0 0], []⟩ 8 (by kernel_rfl) (by kernel_rfl) (by kernel_rfl) (by kernel_rfl)) ?_
  intro W base args ds gs before hval0 hW hcnd _
  have hval : ∀ (j : Nat) t v, Tryz.f5.params[j]? = some t → args[j]? = some v → Value.okWide Tryz.prog W .any base t v := hval0
  have hW' := hW
  obtain ⟨p, q, hA0, hV, rfl, hfz, hnd⟩ := hW
  have hA : DataW.TrodAll enc Tryz.prog W 0 (fun _ => true) true Tryz.f5.params.toList args.toList ds p := hA0
  rw [Tryz.params5] at hA hval
  obtain ⟨v0, vs0, d0, ds0, p0, q0, hargs, rfl, rfl, h0, r0⟩ := trodAll_cons hA
  obtain ⟨v1, vs1, d1, ds1, p1, q1, rfl, rfl, rfl, h1, r1⟩ := trodAll_cons r0
  obtain ⟨rfl, rfl, rfl⟩ := trodAll_nil r1
  obtain rfl : args = #[v0, v1] := by cases args; simp_all
  obtain ⟨rfl, rfl⟩ := trodVars_none hV
  have lt0 : ∀ x ∈ p0, x.block < W.heap.size := by obtain ⟨m, hm⟩ := h0; exact DataW.trod_lt m _ _ _ hm
  obtain ⟨la0, n0, c0, X0, O0, A0, N0, rfl, hc0, hn0, hp0⟩ := open_done (hval 0 22 v0 rfl rfl) h0
  have lt1 : ∀ x ∈ p1, x.block < W.heap.size := by obtain ⟨m, hm⟩ := h1; exact DataW.trod_lt m _ _ _ hm
  obtain ⟨la1, n1, c1, A1, rfl, hc1, hn1, hp1⟩ := open_bytes7 (hval 1 45 v1 rfl rfl) h1
  clear hA0 hval0
  refine (walk hc0 hn0 hp0 hc1 hn1 hp1).mono fun e W' ⟨he, bel⟩ => ?_
  subst he
  exact ⟨_, rfl, _, _, _, [], _, [], hW', trodAll_mk1 (shut_bool Tryz.underlying4 _), (trodAll_cons_mk (Below.trod laidOut (by kernel_rfl) (of_decide_eq_true (by kernel_rfl)) h0 bel lt0) (trodAll_cons_mk (Below.trod laidOut (by kernel_rfl) (of_decide_eq_true (by kernel_rfl)) h1 bel lt1) trodAll_mk0)), rfl, bel.frame _, fun h => by cases h⟩

theorem over : Rows.releaseAllRow.holds Tryz.pinned (OpenSpec.ofChange Rows.releaseAllSpec) :=
  OpenClaim.holds_of_wide 5 Tryz.f5 rfl rfl rfl rfl rfl rfl rfl ⟨rfl, rfl, rfl, rfl, rfl⟩ rfl rfl rfl rfl rfl (by kernel_rfl) Tryz.func5 (by kernel_rfl)
    (of_decide_eq_true (by kernel_rfl)) (by unfold Func.isWrapper; first | (rw [if_pos (by decide +kernel)]; kernel_rfl) | (rw [if_neg (by decide +kernel)]; exact ⟨rfl, rfl⟩))
    (fun os started H enc _ => lifted os started H enc)

theorem proved : Rows.ReleaseAllSaid :=
  over
#print axioms proved


end Go.Proofs.YtcngmkfpbcemjaaGreat.releaseAll
