/-
  What was taken ahead stands as it did, whatever is taken behind it. The statement CarveStays; no condition.
-/
import Derived.Test.YtoamlkljfmgomaaGreatCarAc
import Derived.BigQuiet
import Derived.Deep.RegionHeld3
import Derived.Laws.StructEq
namespace Go.Proofs.YtoamlkljfmgomaaGreat.carveStays
open Go.ChangeShapes Go.WideShapes Go.ChangeAt Go.RowKit
set_option linter.unusedVariables false
set_option linter.unusedSimpArgs false
set_option maxRecDepth 100000

/-! ### used blocks stay -/
theorem bothK_lt {X X' : Nat → Nat} {n i : Nat} (h : i < n) : bothK X X' n i = X i := if_pos h
theorem tkS_first {O O' A A' N N' : Nat → Nat} {n : Nat} : ∀ k, k ≤ n → tkS (bothK O O' n) (bothK A A' n) (bothK N N' n) k = tkS O A N k
  | 0, _ => rfl
  | k + 1, h => by
    have ih := tkS_first (O := O) (O' := O') (A := A) (A' := A') (N := N) (N' := N') (n := n) k (by omega)
    show (tkB (tkS _ _ _ k).1 _ _ _, tkL (tkS _ _ _ k).1 (tkS _ _ _ k).2 _ _ _) = _
    rw [ih, bothK_lt (by omega), bothK_lt (by omega), bothK_lt (by omega)]
    rfl
theorem tkB_stays {bs : List Blk} {owner n a : Nat} {b : Blk} (hb : b ∈ bs) (hu : b.u = true) : b ∈ tkB bs owner n a := by
  unfold tkB
  cases h : fitM bs n a with
  | none => exact hb
  | some i =>
    obtain ⟨hi, hf, _⟩ := fitM_is h
    dsimp only
    unfold takeB
    obtain ⟨j, hj, e⟩ := List.mem_iff_getElem.1 hb
    rcases Nat.lt_trichotomy j i with h1 | h1 | h1
    · exact List.mem_append_left _ (List.mem_append_left _ (List.mem_take_iff_getElem.2 ⟨j, by omega, e⟩))
    · subst h1
      rw [List.getD_eq_getElem?_getD, List.getElem?_eq_getElem hj] at hf
      have hf' : (bs[j]).u = false := hf
      rw [e, hu] at hf'
      cases hf'
    · refine List.mem_append_right _ (List.mem_drop_iff_getElem.2 ⟨j - (i + 1), by omega, ?_⟩)
      rw [← e]
      congr 1
      omega
theorem tkS_stays {O A N : Nat → Nat} {b : Blk} {n : Nat} (hb : b ∈ (tkS O A N n).1) (hu : b.u = true) : ∀ k, b ∈ (tkS O A N (n + k)).1
  | 0 => hb
  | k + 1 => tkB_stays (tkS_stays hb hu k) hu
/-- Both lists, one behind the other, in a row of the call's own: an argument for the next call. -/
theorem both_asks {w5 w6 w7 : World} {v1 v2 : Value} {n m : Nat} {X Y Z X' Y' Z' : Nat → Nat} {b : Nat}
    (hown1 : w6.ownsRow w5.heap.size 62 3 v1 n (cellsK3 X Y Z n)) (hown2 : w7.ownsRow w5.heap.size 62 3 v2 (n + m) (cellsK3 X Y Z n ++ cellsK3 X' Y' Z' m))
    (hg6 : w5.grownBy w6 none) (hgr2 : w6.grownBy w7 v1.ownBlock) (hnil1 : v1 = .slice none 0 0 ↔ (.slice (some ⟨b, 0, none⟩) 0 0 : Value) = .slice none 0 0 ∧ n = 0) (hnil2 : v2 = .slice none 0 0 ↔ v1 = .slice none 0 0 ∧ m = 0)
    (h1 : ∀ i, X i < 256 ∧ Y i < 256 ∧ Z i < 65536) (h2 : ∀ i, X' i < 256 ∧ Y' i < 256 ∧ Z' i < 65536) :
    ∃ g cap, v2 = .slice (some ⟨g, 0, none⟩) (n + m) cap ∧ PiecesAt w7 (some ⟨g, 0, none⟩) (n + m) (bothK X X' n) (bothK Y Y' n) (bothK Z Z' n) ∧ w5.grownBy w7 none := by
  rcases hown2.2 with ⟨hv, _⟩ | ⟨g, cap, cur, hv, _⟩
  · exact absurd (hnil1.1 (hnil2.1 hv).1).1 (by simp)
  · refine ⟨g, cap, hv, ?_, grown_step hg6 hgr2 (fun i hi => .inl (hown1.lt i hi).1)⟩
    rw [bothK_cells, hv] at hown2
    refine asks_of_own hown2 fun i => ?_
    unfold bothK
    split
    · exact h1 i
    · exact h2 _
theorem walk_up (la lb : Option Addr) (n c m cm : Nat) (w : World) (h1 : n ≤ 100000000000000) (h2 : m ≤ 100000000000000) (h : 20 < n + m) :
    Calls Tryz.prog 7 #[.slice la n c, .slice lb m cm] w fun e w' => e = .returned (.bool true) ∧ w.grownBy w' none := by
  have hd : (20 : Int) < (n : Int) + (m : Int) := by omega
  go_enter Tryz.func7, Tryz.ntmps7
  go_wp2_with (first | (go_at_call 9; ((with_reducible refine (awake10 _).mono ?_); rintro e w1 ⟨rfl, hg1⟩)))
  go_ret
  exact ⟨rfl, hg1⟩
set_option maxHeartbeats 16000000 in
theorem core {w : World} {la lb : Option Addr} {n c m cm : Nat} {O A N O' A' N' : Nat → Nat} (hp : PiecesAt w la n O A N) (hp2 : PiecesAt w lb m O' A' N') (h20 : n + m ≤ 20) :
    Calls Tryz.prog 7 #[.slice la n c, .slice lb m cm] w fun e w' => e = .returned (.bool true) ∧ w.grownBy w' none := by
  have htk := fun (V : World) (hg : w.grownBy V none) => taken10_any (c := c) (hp.later hg) (by unfold maxLen; omega)
  have htk2 := fun (V : World) (g cap : Nat) (h : PiecesAt V (some ⟨g, 0, none⟩) (n + m) (bothK O O' n) (bothK A A' n) (bothK N N' n)) => taken10_any (c := cap) h (by unfold maxLen; omega)
  rw [Nat.min_eq_left (by omega : n ≤ 20)] at htk
  rw [Nat.min_eq_left h20] at htk2
  have hin : ∀ b : Blk, b ∈ (tkS O A N n).1 → b.u = true → b ∈ (tkS (bothK O O' n) (bothK A A' n) (bothK N N' n) (n + m)).1 := fun b hb hu => by
    rw [← tkS_first (O' := O') (A' := A') (N' := N') n (Nat.le_refl n)] at hb
    exact tkS_stays hb hu m
  have hlt1 := hp.lt
  have hlt2 := hp2.lt
  obtain ⟨bs, hbs⟩ : ∃ bs, (tkS O A N n).1 = bs := ⟨_, rfl⟩
  obtain ⟨L, hL⟩ : ∃ L, (tkS O A N n).2 = L := ⟨_, rfl⟩
  rw [hbs, hL] at htk
  rw [hbs] at hin
  obtain ⟨bu, hbu⟩ : ∃ bu, (tkS (bothK O O' n) (bothK A A' n) (bothK N N' n) (n + m)).1 = bu := ⟨_, rfl⟩
  obtain ⟨LU, hLU⟩ : ∃ LU, (tkS (bothK O O' n) (bothK A A' n) (bothK N N' n) (n + m)).2 = LU := ⟨_, rfl⟩
  rw [hbu, hLU] at htk2
  rw [hbu] at hin
  clear hbs hL hbu hLU
  have hd : ¬ (20 : Int) < (n : Int) + (m : Int) := by omega
  have hown0 := fun (w : World) => World.ownsRow_lit (base := w.heap.size) (e := 62) (size := 3) w #[] 0 (Nat.le_refl _) (by decide) rfl
  have HIN := Lib.hid hin
  clear hin
  go_enter Tryz.func7, Tryz.ntmps7
  go_wp2_with (first
    | (go_at_call 9; ((with_reducible refine (awake10 _).mono ?_); rintro e w0 ⟨rfl, hg0⟩; have hgA := grown_trans hg0 (World.grownBy_alloc w0 (.cells #[] 62) none); have hba : w0.heap.size ≤ (w0.alloc (.cells #[] 62)).heap.size := (by simp)))
    | (at_builtin; refine wpList_append_asks (hown0 w0) (hp.later hgA) (by omega) hba rfl _ _ rfl rfl rfl ?_; intro v1 w6 hown1 hgr1 hnil1; simp only [Nat.zero_add, List.nil_append] at hown1; have hg6 : w0.grownBy w6 none := grown_new (grown_trans (grown_any (World.grownBy_alloc w0 (.cells #[] 62) none) _) hgr1) (Nat.le_refl _); have hgB := grown_trans hg0 hg6; have hb6 := hg6.size)
    | (at_builtin; refine wpList_append_asks hown1 (hp2.later hgB) (by omega) hb6 rfl _ _ rfl rfl rfl ?_; intro v2 w7 hown2 hgr2 hnil2; obtain ⟨g, cap, hv2, P7, hg7⟩ := both_asks hown1 hown2 hg6 hgr2 hnil1 hnil2 hlt1 hlt2; subst hv2; have hg1 := grown_trans hg0 hg7; clear hown1 hown2 hgr1 hgr2 hnil1 hnil2)
    | (go_at_call 10; ((with_reducible refine (htk _ hg1).mono ?_); rintro e w2 ⟨T, R, v, rfl, H2, V2⟩; obtain ⟨l1, n1, c1, va, ln, vc, hv, hn1⟩ := V2.lie; subst hv; have ga := World.grownBy_alloc w2 (.cells #[.int .u64 4800, .slice l1 n1 c1, .slice (va 0) (ln 0) (vc 0), .slice (va 1) (ln 1) (vc 1), .slice (va 2) (ln 2) (vc 2), .slice (va 3) (ln 3) (vc 3), .slice (va 4) (ln 4) (vc 4), .slice (va 5) (ln 5) (vc 5), .slice (va 6) (ln 6) (vc 6), .slice (va 7) (ln 7) (vc 7)] 30) none; have B2 := heap_alloc_new' w2 (.cells #[.int .u64 4800, .slice l1 n1 c1, .slice (va 0) (ln 0) (vc 0), .slice (va 1) (ln 1) (vc 1), .slice (va 2) (ln 2) (vc 2), .slice (va 3) (ln 3) (vc 3), .slice (va 4) (ln 4) (vc 4), .slice (va 5) (ln 5) (vc 5), .slice (va 6) (ln 6) (vc 6), .slice (va 7) (ln 7) (vc 7)] 30); have HB2 := Lib.hid B2; clear B2; have H3 := H2.later ga; have V3 := V2.later ga; simp only [heapV, show ((4800 : Nat) : Int) = 4800 from rfl]; have P3 := P7.later (grown_trans H2.since ga)))
    | (go_at_call 10; ((with_reducible refine (htk2 _ _ _ P3).mono ?_); rintro e w4 ⟨TU, RU, vU, rfl, U4, VU⟩; obtain ⟨lu, nu, cu, ua, un, uc, hvU, _⟩ := VU.lie; subst hvU; clear VU; have gu := World.grownBy_alloc w4 (.cells #[.int .u64 4800, .slice lu nu cu, .slice (ua 0) (un 0) (uc 0), .slice (ua 1) (un 1) (uc 1), .slice (ua 2) (un 2) (uc 2), .slice (ua 3) (un 3) (uc 3), .slice (ua 4) (un 4) (uc 4), .slice (ua 5) (un 5) (uc 5), .slice (ua 6) (un 6) (uc 6), .slice (ua 7) (un 7) (uc 7)] 30) none; have U5 := U4.later gu; have G5 := grown_trans U4.since gu; have H5 := H3.later G5; have HB5 := Lib.hid ((G5.block _ (lt_of_block HB2.out) (by simp)).trans HB2.out); simp only [heapV, show ((4800 : Nat) : Int) = 4800 from rfl])))
  have hbd := hw_bounds H3
  obtain ⟨W5, hW5⟩ : ∃ W5, w4.alloc (.cells #[.int .u64 4800, .slice lu nu cu, .slice (ua 0) (un 0) (uc 0), .slice (ua 1) (un 1) (uc 1), .slice (ua 2) (un 2) (uc 2), .slice (ua 3) (un 3) (uc 3), .slice (ua 4) (un 4) (uc 4), .slice (ua 5) (un 5) (uc 5), .slice (ua 6) (un 6) (uc 6), .slice (ua 7) (un 7) (uc 7)] 30) = W5 := ⟨_, rfl⟩
  rw [hW5] at gu U5 G5 H5 HB5 ⊢
  obtain ⟨hb, ehb⟩ : ∃ hb, w2.heap.size = hb := ⟨_, rfl⟩
  rw [ehb] at HB5 ⊢
  have HG5 := Lib.hid (grown_trans hg1 (grown_trans H2.since (grown_trans ga G5)))
  have V5 := V3.later G5
  obtain ⟨bl, vs, hve, hob, _⟩ := V5
  have hbl : bl = .slice l1 n1 c1 := by simp only [heapV, Value.agg.injEq, Array.mk.injEq, List.cons.injEq] at hve; exact hve.2.1.symm
  subst hbl
  obtain ⟨la5, c5, hbe, hat⟩ := hob.at_
  have hlen : n1 ≤ 1000 := by have := hw_few600 H3; omega
  have e5 : l1 = la5 := by injection hbe
  subst e5
  have HBD := Lib.hid hbd
  have HN1 := Lib.hid hn1
  have HAT := Lib.hid hat
  clear hbd hn1 hat hbe hve hob V3 V2 H2 H3 ga gu U4 G5 P3 P7 HB2 htk htk2 hown0 hg0 hgA hba hg6 hgB hb6 hg7 hg1 hlt1 hlt2 hp hp2 hW5 ehb
  go_loopw [13] (fun i wr => ∃ k : Nat, k ≤ n1 ∧ i = .int .i64 k ∧ W5.grownBy wr none) (fun i _ => n1 - (intOf i).toNat)
  case atStart => exact ⟨0, Nat.zero_le _, rfl, grown_refl _ _⟩
  case round =>
    obtain ⟨k, hk, rfl, hg⟩ := hrel
    rename_i wr
    obtain ⟨⟨_, d1, _⟩, _⟩ := ten_cells ((hg.block _ (lt_of_block HB5.out) (by simp)).trans HB5.out)
    by_cases hlt : k < n1
    · obtain ⟨b, o, rfl, hbl, hcs⟩ := (HAT.out.later hg).cells (by rw [HN1.out]; omega)
      have hk1 : k < bs.length := by rw [HN1.out]; exact hlt
      have hO := HBD.out k hk1
      obtain ⟨x0, ex0⟩ : ∃ x, gO bs k = x := ⟨_, rfl⟩
      obtain ⟨x1, ex1⟩ : ∃ x, gS bs k = x := ⟨_, rfl⟩
      obtain ⟨x2, ex2⟩ : ∃ x, gU bs k = x := ⟨_, rfl⟩
      obtain ⟨x3, ex3⟩ : ∃ x, gW bs k = x := ⟨_, rfl⟩
      obtain ⟨x4, ex4⟩ : ∃ x, gN bs k = x := ⟨_, rfl⟩
      obtain ⟨k0, k1, k2, k3, k4⟩ := hcs k hk1
      rw [ex0] at k0
      rw [ex2] at k2
      have hkn : (k : Int) < (n1 : Int) := by omega
      cases x2 with
      | false =>
        clear hcs ex0 ex1 ex2 ex3 ex4 k1 k3 k4
        go_wp2
        go_roundw
        case rel => exact ⟨k + 1, by omega, by go_num, hg⟩
        case measure => simp [intOf]; omega
      | true =>
        have hmem := getB_mem hk1
        have hf1 := fun (V : World) (hV : wr.grownBy V none) => hw_find_used (H5.later (grown_trans hg hV)) hmem ex2
        have hf2 := fun (V : World) (hV : wr.grownBy V none) => hw_find_used (U5.later (grown_trans hg hV)) (HIN.out _ hmem ex2) ex2
        obtain ⟨p, hp⟩ : ∃ p, x0 + 32 = p := ⟨_, rfl⟩
        unfold Blk.val at hf1 hf2
        rw [show (bs.getD k default).off = x0 from ex0, show (bs.getD k default).s = x1 from ex1, show (bs.getD k default).u = true from ex2, show (bs.getD k default).o = x3 from ex3, show (bs.getD k default).n = x4 from ex4, hp] at hf1 hf2
        have ep : IntKind.u64.wrap ((x0 : Int) + 32) = (p : Nat) := by rw [IntKind.wrap_u64]; rw [ex0] at hO; omega
        clear hcs ex0 ex1 ex2 ex3 ex4 k1 k3 k4 hp hmem hO
        have F1 : ∀ V : World, wr.grownBy V none → Calls Tryz.prog 18 #[.pointer (some ⟨T, 0, none⟩), .int .u64 (p : Nat)] V fun e w' => e = .returned (.tuple #[.agg #[.int .u64 (x0 : Nat), .int .u64 (x1 : Nat), .bool true, .int .i64 x3, .int .u64 (x4 : Nat)], .bool true]) ∧ V.grownBy w' none := hf1
        have F2 : ∀ V : World, wr.grownBy V none → Calls Tryz.prog 18 #[.pointer (some ⟨TU, 0, none⟩), .int .u64 (p : Nat)] V fun e w' => e = .returned (.tuple #[.agg #[.int .u64 (x0 : Nat), .int .u64 (x1 : Nat), .bool true, .int .i64 x3, .int .u64 (x4 : Nat)], .bool true]) ∧ V.grownBy w' none := hf2
        clear hf1 hf2
        go_wp2_with (first
          | (go_at_call 18; ((with_reducible refine (F1 _ (grown_refl _ _)).mono ?_); rintro e w8 ⟨rfl, hg8⟩; have ga8 := World.grownBy_alloc w8 (.cells #[.int .u64 (x0 : Nat), .int .u64 (x1 : Nat), .bool true, .int .i64 x3, .int .u64 (x4 : Nat)] 66) none; have HB8 := Lib.hid (heap_alloc_new' w8 (.cells #[.int .u64 (x0 : Nat), .int .u64 (x1 : Nat), .bool true, .int .i64 x3, .int .u64 (x4 : Nat)] 66)); have G8 := grown_trans hg8 ga8))
          | (go_at_call 18; ((with_reducible refine (F2 _ G8).mono ?_); rintro e w9 ⟨rfl, hg9⟩; have ga9 := World.grownBy_alloc w9 (.cells #[.int .u64 (x0 : Nat), .int .u64 (x1 : Nat), .bool true, .int .i64 x3, .int .u64 (x4 : Nat)] 66) none; obtain ⟨y0, y1, y2, y3, y4⟩ := five_cells (heap_alloc_new' w9 (.cells #[.int .u64 (x0 : Nat), .int .u64 (x1 : Nat), .bool true, .int .i64 x3, .int .u64 (x4 : Nat)] 66)); have g9 := grown_trans hg9 ga9; obtain ⟨z0, z1, z2, z3, z4⟩ := five_cells ((g9.block _ (lt_of_block HB8.out) (by simp)).trans HB8.out); have G9 := grown_trans G8 g9)))
        go_roundw
        case rel => exact ⟨k + 1, by omega, by go_num, grown_trans hg G9⟩
        case measure => simp [intOf]; omega
    · obtain rfl : k = n1 := by omega
      go_wp2
      go_ret
      exact ⟨rfl, grown_trans HG5.out hg⟩
theorem walk {w : World} {la lb : Option Addr} {n c m cm : Nat} {O A N O' A' N' : Nat → Nat} (hp : PiecesAt w la n O A N) (hp2 : PiecesAt w lb m O' A' N') (z0 : n * 4 ≤ 140737488351232) (z1 : m * 4 ≤ 140737488351232) :
    Calls Tryz.prog 7 #[.slice la n c, .slice lb m cm] w fun e w' => e = .returned (.bool true) ∧ Below w.heap.size w w' := by
  rcases Nat.lt_or_ge 20 (n + m) with h | h
  · exact (walk_up la lb n c m cm w (by omega) (by omega) h).mono fun e w' ⟨h1, h2⟩ => ⟨h1, grown_below h2⟩
  · exact (core hp hp2 h).mono fun e w' ⟨h1, h2⟩ => ⟨h1, grown_below h2⟩
theorem laidOut : laidOutB Tryz.prog = true := by kernel_rfl
/-! ### The row's step: the guide's frame -/
theorem own : ownKnob Tryz.prog.godebug = none := by kernel_rfl
set_option maxRecDepth 100000 in
theorem lifted (os : Os) (started : os.Started) (H : Type) (enc : TypeId × Value → H) :
    ReturnsInHanded {} Tryz.checked os 7 .any (Rows.carveStaysSpec.pre6 enc Tryz.prog Tryz.f7 Rows.carveStaysRow.domain false) (Rows.carveStaysSpec.post enc Tryz.prog Tryz.f7 false true false false) := by
  refine returnsInHanded_of_change_sized (C := Tryz.checked) own started (by kernel_rfl) Tryz.func7
    (ChangeSpec.witness6 (enc := enc) (C := Tryz.checked) false ⟨#[], #[.slice none 0 0, .slice none 0 0], []⟩ 8 (by kernel_rfl) (by kernel_rfl) (by kernel_rfl) (by kernel_rfl)) ?_
  intro W base args ds gs before hval0 hW hcnd hsz _
  have hval : ∀ (j : Nat) t v, Tryz.f7.params[j]? = some t → args[j]? = some v → Value.okWide Tryz.prog W .any base t v := hval0
  have hW' := hW
  obtain ⟨p, q, hA0, hV, rfl, hfz, hnd⟩ := hW
  have hA : DataW.TrodAll enc Tryz.prog W 0 (fun _ => true) true Tryz.f7.params.toList args.toList ds p := hA0
  rw [Tryz.params7] at hA hval
  obtain ⟨v0, vs0, d0, ds0, p0, q0, hargs, rfl, rfl, h0, r0⟩ := trodAll_cons hA
  obtain ⟨v1, vs1, d1, ds1, p1, q1, rfl, rfl, rfl, h1, r1⟩ := trodAll_cons r0
  obtain ⟨rfl, rfl, rfl⟩ := trodAll_nil r1
  obtain rfl : args = #[v0, v1] := by cases args; simp_all
  obtain ⟨rfl, rfl⟩ := trodVars_none hV
  have lt0 : ∀ x ∈ p0, x.block < W.heap.size := by obtain ⟨m, hm⟩ := h0; exact DataW.trod_lt m _ _ _ hm
  obtain ⟨la0, n0, c0, A0, B0, C0, rfl, hc0, hn0, hp0⟩ := open_asks (hval 0 22 v0 rfl rfl) h0
  have lt1 : ∀ x ∈ p1, x.block < W.heap.size := by obtain ⟨m, hm⟩ := h1; exact DataW.trod_lt m _ _ _ hm
  obtain ⟨la1, n1, c1, A1, B1, C1, rfl, hc1, hn1, hp1⟩ := open_asks (hval 1 22 v1 rfl rfl) h1
  have z0 := asks_reach hsz (j := 0) rfl rfl h0
  have z1 := asks_reach hsz (j := 1) rfl rfl h1
  clear hA0 hval0 hsz
  refine (walk hp0 hp1 z0 z1).mono fun e W' ⟨he, bel⟩ => ?_
  subst he
  exact ⟨_, rfl, _, _, _, [], _, [], hW', trodAll_mk1 (shut_bool Tryz.underlying4 _), (trodAll_cons_mk (Below.trod laidOut (by kernel_rfl) (of_decide_eq_true (by kernel_rfl)) h0 bel lt0) (trodAll_cons_mk (Below.trod laidOut (by kernel_rfl) (of_decide_eq_true (by kernel_rfl)) h1 bel lt1) trodAll_mk0)), rfl, bel.frame _, fun h => by cases h⟩

theorem over : Rows.carveStaysRow.holds Tryz.pinned (OpenSpec.ofChange Rows.carveStaysSpec) :=
  OpenClaim.holds_of_wide 7 Tryz.f7 rfl rfl rfl rfl rfl rfl rfl ⟨rfl, rfl, rfl, rfl, rfl⟩ rfl rfl rfl rfl rfl (by kernel_rfl) Tryz.func7 (by kernel_rfl)
    (of_decide_eq_true (by kernel_rfl)) (by unfold Func.isWrapper; first | (rw [if_pos (by decide +kernel)]; kernel_rfl) | (rw [if_neg (by decide +kernel)]; exact ⟨rfl, rfl⟩))
    (fun os started H enc _ => lifted os started H enc)

theorem proved : Rows.CarveStaysSaid :=
  over
#print axioms proved


end Go.Proofs.YtoamlkljfmgomaaGreat.carveStays
