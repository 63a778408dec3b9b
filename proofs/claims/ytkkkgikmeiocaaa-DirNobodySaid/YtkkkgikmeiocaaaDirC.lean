/-
  Texts of one layer, one behind the other: memory, contracts of the functions, and what follows of them.
  Conditions: as each theorem says.
-/
import Derived.Test.YtkkkgikmeiocaaaLDia
import Derived.Test.YtkkkgikmeiocaaaLTxa
import Derived.Deep.RegionHeld3
set_option linter.unusedVariables false
set_option linter.unusedSimpArgs false
namespace Go.Proofs.Ytkkkgikmeiocaaa
open Go.RowKit
set_option maxRecDepth 100000
section
variable {f : Nat → Nat} {h a b k : Nat}
theorem plF_step (hk : k < 16) : plF f h (16 - k) k = if f (dAt ((h + k) % 16) + 16) < 2 then some ((h + k) % 16) else plF f h (16 - (k + 1)) (k + 1) := by
  rw [show 16 - k = (16 - (k + 1)) + 1 by omega]
  rfl
theorem stF_step (hk : k < 16) : stF f h a b (16 - k) k = if f (dAt ((h + k) % 16) + 16) = 0 then none else if 1 < f (dAt ((h + k) % 16) + 16) ∧ f (dAt ((h + k) % 16)) = a ∧ f (dAt ((h + k) % 16) + 8) = b then some ((h + k) % 16) else stF f h a b (16 - (k + 1)) (k + 1) := by
  rw [show 16 - k = (16 - (k + 1)) + 1 by omega]
  rfl
end
def RLd (w : World) (tv : Value) (f : Nat → Nat) : Prop := ∀ V x, w.grownBy V none → x < 18446744073709551616 → Calls Try.prog 26 #[tv, .int .u64 (x : Nat)] V fun e w' => e = .returned (.int .u64 (f x : Nat)) ∧ V.grownBy w' none
section
variable {w w' : World} {f : Nat → Nat} {wv pv : Value} {s : ByteArray}
theorem RLd.later {tv : Value} (h : RLd w tv f) (hg : w.grownBy w' none) : RLd w' tv f := fun V x hV hx => h V x (grown_trans hg hV) hx
theorem dAt_lt (i : Nat) : dAt (i % 16) + 16 < 4000 := by unfold dAt; omega
set_option maxHeartbeats 4000000 in
theorem rplace13 (hld : RLd w (.agg #[wv, pv]) f) (hs : s.size ≤ maxLen) :
    Calls Try.prog 30 #[.agg #[wv, pv], .string s] w fun e w' => e = .returned (.int .i64 (optD (plN f s))) ∧ w.grownBy w' none := by
  have hway := fun V => rway13_any s hs V
  unfold plN
  obtain ⟨h, eh⟩ : ∃ h, hD s = h := ⟨_, rfl⟩
  rw [eh] at hway ⊢
  obtain ⟨r, er⟩ : ∃ r, plF f h 16 0 = r := ⟨_, rfl⟩
  rw [er]
  have ER := Lib.hid er
  have hg0 := World.grownBy_alloc w (.cells #[wv, pv] 28) none
  obtain ⟨W0, hW0⟩ : ∃ W0, w.alloc (.cells #[wv, pv] 28) = W0 := ⟨_, rfl⟩
  have hbox : ∀ w', W0.grownBy w' none → w'.heap[w.heap.size]? = some (.cells #[wv, pv] 28 (0, 0)) := fun w' hg => tx_one (hW0 ▸ hg)
  rw [hW0] at hg0
  have HB := Lib.hid hbox
  have HL := Lib.hid (hld.later hg0)
  have HG0 := Lib.hid hg0
  clear er eh hld hbox hg0
  go_enter Try.func30, Try.ntmps30
  go_wp2_with (first | (go_at_call 43; (with_reducible refine (hway _).mono ?_); rintro e w1 ⟨v, rfl, ho, hg1⟩))
  clear hway hW0
  obtain ⟨va, vc, vg, rfl, hva, hvc⟩ := OwnI.addr ho
  rw [wayL_len] at hva
  obtain rfl := hva (by decide)
  have HO := Lib.hid ho
  have HVC := Lib.hid hvc
  clear hva hvc ho
  simp only [wayL_len]
  go_loopw [6] (fun i wr => ∃ k : Nat, k ≤ 16 ∧ i = .int .i64 k ∧ W0.grownBy wr none ∧ OwnI wr W0.heap.size (.slice (some ⟨vg, 0, none⟩) (wayL h).length vc) (wayL h) ∧ Hid (plF f h (16 - k) k = r)) (fun i _ => 16 - (intOf i).toNat)
  case atStart => exact ⟨0, Nat.zero_le _, rfl, hg1, HO.out, ER⟩
  case round =>
    obtain ⟨k, hk, rfl, hgr, hown, HR⟩ := hrel
    by_cases h1 : k < 16
    · have hst := HR.out
      rw [plF_step h1] at hst
      have hlt := dAt_lt (h + k)
      have hcell : ∀ {V : World}, wr.grownBy V none → V.cell? ⟨w.heap.size, 0, none⟩ = some wv ∧ V.cell? ⟨w.heap.size, 1, none⟩ = some pv ∧ V.cell? ⟨vg, k, none⟩ = some (.int .i64 ((h + k) % 16 : Nat)) := fun {V} hg => by
        obtain ⟨c0, c1, _, _⟩ := tx_cells (HB.out V (grown_trans hgr hg))
        have := HVC.out V (hown.later hg) k (by rw [wayL_len]; exact h1)
        rw [wayL_at h1] at this
        exact ⟨c0, c1, this⟩
      have hy : (h + k) % 16 < 16 := Nat.mod_lt _ (by decide)
      obtain ⟨y, ey⟩ : ∃ y, (h + k) % 16 = y := ⟨_, rfl⟩
      rw [ey] at hst hlt hcell hy
      have hat := fun V => rat13_any y (by omega) V
      obtain ⟨d, ed⟩ : ∃ d, dAt y = d := ⟨_, rfl⟩
      rw [ed] at hst hlt hat
      have e16 : IntKind.u64.wrap ((d : Int) + 16) = ((d + 16 : Nat) : Int) := by rw [IntKind.wrap_u64]; omega
      have hl := fun V (hg : wr.grownBy V none) => HL.out V (d + 16) (grown_trans hgr hg) (by omega)
      obtain ⟨x, ex⟩ : ∃ x, f (d + 16) = x := ⟨_, rfl⟩
      rw [ex] at hst hl
      obtain ⟨d16, ed16⟩ : ∃ q, d + 16 = q := ⟨_, rfl⟩
      rw [ed16] at e16 hl
      have HCELL := Lib.hid (fun (V : World) (hg : wr.grownBy V none) => hcell hg)
      have HST := Lib.hid hst
      have HLD := Lib.hid hl
      have HOWN := Lib.hid hown
      have hki : (k : Int) < 16 := by omega
      have hk16 : k < 16 := h1
      clear hst hlt hcell ey ed ex ed16 hl hown h1 hy HR
      have HG : wr.grownBy wr.drew none := grown_drew (grown_refl _ _)
      obtain ⟨t0, t1, ly⟩ := HCELL.out _ HG
      go_wp2
      by_cases hx : x < 2
      · have hxi : (x : Int) < 2 := by omega
        have hr := HST.out
        rw [if_pos hx] at hr
        have HRR := Lib.hid hr
        clear hr hx
        go_region_held3 (fun w' => w'.cell? ⟨w.heap.size, 0, none⟩ = some wv ∧ w'.cell? ⟨w.heap.size, 1, none⟩ = some pv ∧ w'.cell? ⟨vg, k, none⟩ = some (.int .i64 (y : Nat))) (exact HCELL.out _ HG) (first
          | (go_at_call 27; (with_reducible refine (hat _).mono ?_); rintro e w2 ⟨rfl, rfl⟩)
          | (go_at_call 26; (with_reducible refine (HLD.out _ HG).mono ?_); rintro e w3 ⟨rfl, hg3⟩; replace HG := grown_trans HG hg3; obtain ⟨t0, t1, ly⟩ := HCELL.out _ HG))
        go_wp2
        go_ret
        exact ⟨by rw [← HRR.out]; rfl, grown_trans HG0.out (grown_trans hgr HG)⟩
      · have hxi : ¬ (x : Int) < 2 := by omega
        have hr := HST.out
        rw [if_neg hx] at hr
        have HRR := Lib.hid hr
        clear hr hx
        go_region_held3 (fun w' => w'.cell? ⟨w.heap.size, 0, none⟩ = some wv ∧ w'.cell? ⟨w.heap.size, 1, none⟩ = some pv ∧ w'.cell? ⟨vg, k, none⟩ = some (.int .i64 (y : Nat))) (exact HCELL.out _ HG) (first
          | (go_at_call 27; (with_reducible refine (hat _).mono ?_); rintro e w2 ⟨rfl, rfl⟩)
          | (go_at_call 26; (with_reducible refine (HLD.out _ HG).mono ?_); rintro e w3 ⟨rfl, hg3⟩; replace HG := grown_trans HG hg3; obtain ⟨t0, t1, ly⟩ := HCELL.out _ HG))
        have hk1 : IntKind.i64.wrap ((k : Int) + 1) = ((k + 1 : Nat) : Int) := by rw [IntKind.wrap_i64]; omega
        have hms : 16 - (k + 1) < 16 - k := by omega
        go_wp2
        go_roundw
        case rel => exact ⟨k + 1, by omega, by go_num, grown_trans hgr HG, HOWN.out.later HG, HRR⟩
        case measure => simp [intOf]; omega
    · obtain rfl : k = 16 := by omega
      have hr := HR.out
      clear h1
      go_wp2
      go_ret
      exact ⟨by rw [← hr]; rfl, grown_trans HG0.out hgr⟩
set_option maxHeartbeats 8000000 in
theorem rstands13 (hld : RLd w (.agg #[wv, pv]) f) (hs : s.size ≤ maxLen) :
    Calls Try.prog 25 #[.agg #[wv, pv], .string s] w fun e w' => e = .returned (.int .i64 (optD (stN f s))) ∧ w.grownBy w' none := by
  have hway := fun V => rway13_any s hs V
  have hpk := fun V => rpack13 s hs V
  unfold stN
  obtain ⟨h, eh⟩ : ∃ h, hD s = h := ⟨_, rfl⟩
  obtain ⟨lo, elo⟩ : ∃ x, loD s = x := ⟨_, rfl⟩
  obtain ⟨hi, ehi⟩ : ∃ x, hiD s = x := ⟨_, rfl⟩
  rw [eh] at hway ⊢
  rw [elo, ehi] at hpk ⊢
  obtain ⟨r, er⟩ : ∃ r, stF f h lo hi 16 0 = r := ⟨_, rfl⟩
  rw [er]
  have ER := Lib.hid er
  have hg0 := World.grownBy_alloc w (.cells #[wv, pv] 28) none
  obtain ⟨W0, hW0⟩ : ∃ W0, w.alloc (.cells #[wv, pv] 28) = W0 := ⟨_, rfl⟩
  have hbox : ∀ w', W0.grownBy w' none → w'.heap[w.heap.size]? = some (.cells #[wv, pv] 28 (0, 0)) := fun w' hg => tx_one (hW0 ▸ hg)
  rw [hW0] at hg0
  have HB := Lib.hid hbox
  have HL := Lib.hid (hld.later hg0)
  have HG0 := Lib.hid hg0
  clear er eh elo ehi hld hbox hg0
  by_cases hok : nmOk s
  · rw [if_pos hok]
    simp only [decide_eq_true hok] at hpk
    clear hok
    go_enter Try.func25, Try.ntmps25
    go_wp2_with (first
      | (go_at_call 29; (with_reducible refine (hpk _).mono ?_); rintro e w1 ⟨rfl, hg1⟩; have ga := World.grownBy_alloc w1 (.cells #[.int .u64 (lo : Nat), .int .u64 (hi : Nat)] 63) none; have hb1 := heap_alloc_new' w1 (.cells #[.int .u64 (lo : Nat), .int .u64 (hi : Nat)] 63); have HB1 := Lib.hid hb1; clear hb1)
      | (go_at_call 43; (with_reducible refine (hway _).mono ?_); rintro e w2 ⟨v, rfl, ho, hg2⟩))
    clear hway hpk hW0
    obtain ⟨va, vc, vg, rfl, hva, hvc⟩ := OwnI.addr ho
    rw [wayL_len] at hva
    obtain rfl := hva (by decide)
    obtain ⟨bw, ebw⟩ : ∃ b, w1.heap.size = b := ⟨_, rfl⟩
    have hw2 : w2.heap[bw]? = some (.cells #[.int .u64 (lo : Nat), .int .u64 (hi : Nat)] 63 (0, 0)) := by
      rw [← ebw]
      exact (hg2.block _ (lt_of_block HB1.out) (by simp)).trans HB1.out
    have g2 := grown_trans hg1 (grown_trans ga hg2)
    have HW2 := Lib.hid hw2
    have HO := Lib.hid ho
    have HVC := Lib.hid hvc
    rw [ebw]
    clear hva hvc ho ga hg1 hw2 HB1 ebw
    simp only [wayL_len]
    go_loopw [8] (fun i wr => ∃ k : Nat, k ≤ 16 ∧ i = .int .i64 k ∧ w2.grownBy wr none ∧ Hid (stF f h lo hi (16 - k) k = r)) (fun i _ => 16 - (intOf i).toNat)
    case atStart => exact ⟨0, Nat.zero_le _, rfl, grown_refl _ _, ER⟩
    case round =>
      obtain ⟨k, hk, rfl, hgr, HR⟩ := hrel
      by_cases h1 : k < 16
      · have hst := HR.out
        rw [stF_step h1] at hst
        have hlt := dAt_lt (h + k)
        have hcell : ∀ {V : World}, wr.grownBy V none → V.cell? ⟨w.heap.size, 0, none⟩ = some wv ∧ V.cell? ⟨w.heap.size, 1, none⟩ = some pv ∧ V.cell? ⟨vg, k, none⟩ = some (.int .i64 ((h + k) % 16 : Nat)) ∧ V.cell? ⟨bw, 0, none⟩ = some (.int .u64 (lo : Nat)) ∧ V.cell? ⟨bw, 1, none⟩ = some (.int .u64 (hi : Nat)) := fun {V} hg => by
          obtain ⟨c0, c1, _, _⟩ := tx_cells (HB.out V (grown_trans g2 (grown_trans hgr hg)))
          have := HVC.out V (HO.out.later (grown_trans hgr hg)) k (by rw [wayL_len]; exact h1)
          rw [wayL_at h1] at this
          have hb := ((grown_trans hgr hg).block _ (lt_of_block HW2.out) (by simp)).trans HW2.out
          obtain ⟨c2, c3, _, _⟩ := tx_cells hb
          exact ⟨c0, c1, this, c2, c3⟩
        have hy : (h + k) % 16 < 16 := Nat.mod_lt _ (by decide)
        obtain ⟨y, ey⟩ : ∃ y, (h + k) % 16 = y := ⟨_, rfl⟩
        rw [ey] at hst hlt hcell hy
        have hat := fun V => rat13_any y (by omega) V
        obtain ⟨d, ed⟩ : ∃ d, dAt y = d := ⟨_, rfl⟩
        rw [ed] at hst hlt hat
        have e16 : IntKind.u64.wrap ((d : Int) + 16) = ((d + 16 : Nat) : Int) := by rw [IntKind.wrap_u64]; omega
        have e8 : IntKind.u64.wrap ((d : Int) + 8) = ((d + 8 : Nat) : Int) := by rw [IntKind.wrap_u64]; omega
        have gr := grown_trans g2 hgr
        have hl16 := fun V (hg : wr.grownBy V none) => HL.out V (d + 16) (grown_trans gr hg) (by omega)
        have hl8 := fun V (hg : wr.grownBy V none) => HL.out V (d + 8) (grown_trans gr hg) (by omega)
        have hl0 := fun V (hg : wr.grownBy V none) => HL.out V d (grown_trans gr hg) (by omega)
        obtain ⟨x, ex⟩ : ∃ x, f (d + 16) = x := ⟨_, rfl⟩
        obtain ⟨x0, ex0⟩ : ∃ x, f d = x := ⟨_, rfl⟩
        obtain ⟨x8, ex8⟩ : ∃ x, f (d + 8) = x := ⟨_, rfl⟩
        rw [ex] at hl16
        rw [ex0] at hl0
        rw [ex8] at hl8
        rw [ex, ex0, ex8] at hst
        obtain ⟨d16, ed16⟩ : ∃ q, d + 16 = q := ⟨_, rfl⟩
        obtain ⟨d8, ed8⟩ : ∃ q, d + 8 = q := ⟨_, rfl⟩
        rw [ed16] at e16 hl16
        rw [ed8] at e8 hl8
        have HCELL := Lib.hid (fun (V : World) (hg : wr.grownBy V none) => hcell hg)
        have HST := Lib.hid hst
        have HL16 := Lib.hid hl16
        have HL8 := Lib.hid hl8
        have HL0 := Lib.hid hl0
        have HGR := Lib.hid hgr
        have GR := Lib.hid (grown_trans HG0.out gr)
        have hki : (k : Int) < 16 := by omega
        have hk1 : IntKind.i64.wrap ((k : Int) + 1) = ((k + 1 : Nat) : Int) := by rw [IntKind.wrap_i64]; omega
        have hms : 16 - (k + 1) < 16 - k := by omega
        have hk16 : k < 16 := h1
        clear hst hlt hcell ey ed ex ex0 ex8 ed16 ed8 hl16 hl8 hl0 h1 hy HR gr hgr
        have HG : wr.grownBy wr.drew none := grown_drew (grown_refl _ _)
        obtain ⟨t0, t1, ly, q0, q1⟩ := HCELL.out _ HG
        go_wp2
        go_region_held3 (fun w' => w'.cell? ⟨w.heap.size, 0, none⟩ = some wv ∧ w'.cell? ⟨w.heap.size, 1, none⟩ = some pv ∧ w'.cell? ⟨vg, k, none⟩ = some (.int .i64 (y : Nat)) ∧ w'.cell? ⟨bw, 0, none⟩ = some (.int .u64 (lo : Nat)) ∧ w'.cell? ⟨bw, 1, none⟩ = some (.int .u64 (hi : Nat))) (exact HCELL.out _ HG) (first
            | (go_at_call 27; (with_reducible refine (hat _).mono ?_); rintro e w2 ⟨rfl, rfl⟩)
            | (go_at_call 26; (with_reducible refine (HL16.out _ HG).mono ?_); rintro e w3 ⟨rfl, hg3⟩; replace HG := grown_trans HG hg3; obtain ⟨t0, t1, ly, q0, q1⟩ := HCELL.out _ HG))
        by_cases hx0 : x = 0
        · have hxi : (x : Int) = 0 := by omega
          have hr := HST.out
          rw [if_pos hx0] at hr
          have HRR := Lib.hid hr
          clear hr hx0
          go_wp2
          go_ret
          exact ⟨by rw [← HRR.out]; rfl, grown_trans GR.out HG⟩
        · have hxi : ¬ (x : Int) = 0 := by omega
          have hr0 := HST.out
          rw [if_neg hx0] at hr0
          have HR0 := Lib.hid hr0
          clear hr0
          by_cases hx1 : 1 < x
          · have hx1i : (1 : Int) < (x : Int) := by omega
            by_cases hxl : x0 = lo
            · have hxli : ((x0 : Int) == (lo : Int)) = true := by rw [hxl]; simp
              by_cases hxh : x8 = hi
              · have hxhi : ((x8 : Int) == (hi : Int)) = true := by rw [hxh]; simp
                have hr := HR0.out
                rw [if_pos ⟨hx1, hxl, hxh⟩] at hr
                have HRR := Lib.hid hr
                clear hr hx0 hx1 hxl hxh
                have HG2 := HG
                replace HG : wr.grownBy _ none := grown_drew HG2
                obtain ⟨t0, t1, ly, q0, q1⟩ := HCELL.out _ HG
                go_wp2
                refine wp_region_held_drew (S := (fun w' => w'.cell? ⟨w.heap.size, 0, none⟩ = some wv ∧ w'.cell? ⟨w.heap.size, 1, none⟩ = some pv ∧ w'.cell? ⟨vg, k, none⟩ = some (.int .i64 (y : Nat)) ∧ w'.cell? ⟨bw, 0, none⟩ = some (.int .u64 (lo : Nat)) ∧ w'.cell? ⟨bw, 1, none⟩ = some (.int .u64 (hi : Nat)))) (by kernel_rfl) (HCELL.out _ HG) (fun hHeld => ?_)
                refine held_yes 0 36 (v := ?_) rfl rfl (by kernel_rfl) (by kernel_rfl) (by kernel_rfl) (fun _ _ _ h => h) (by kernel_rfl) ?hy0 hHeld ?hr0
                case hy0 => (intro w hSw; (try dsimp only at hSw); go_simp; try (with_reducible rfl))
                case hr0 =>
                simp only [Act.put, List.setIfInBounds_toArray, List.set_cons_zero, List.set_cons_succ]
                refine held_yes 1 37 (v := ?_) rfl rfl (by kernel_rfl) (by kernel_rfl) (by kernel_rfl) (fun _ _ _ h => h) (by kernel_rfl) ?hy1 hHeld ?hr1
                case hy1 => (intro w hSw; (try dsimp only at hSw); go_simp; try (with_reducible rfl))
                case hr1 =>
                simp only [Act.put, List.setIfInBounds_toArray, List.set_cons_zero, List.set_cons_succ]
                refine held_yes 2 38 (v := ?_) rfl rfl (by kernel_rfl) (by kernel_rfl) (by kernel_rfl) (fun _ _ _ h => h) (by kernel_rfl) ?hy2 hHeld ?hr2
                case hy2 => (intro w hSw; (try dsimp only at hSw); go_simp; try (with_reducible rfl))
                case hr2 =>
                simp only [Act.put, List.setIfInBounds_toArray, List.set_cons_zero, List.set_cons_succ]
                refine held_yes 3 39 (v := ?_) rfl rfl (by kernel_rfl) (by kernel_rfl) (by kernel_rfl) (fun _ _ _ h => h) (by kernel_rfl) ?hy3 hHeld ?hr3
                case hy3 => (intro w hSw; (try dsimp only at hSw); go_simp; try (with_reducible rfl))
                case hr3 =>
                simp only [Act.put, List.setIfInBounds_toArray, List.set_cons_zero, List.set_cons_succ]
                refine held_yes 4 40 (v := ?_) rfl rfl (by kernel_rfl) (by kernel_rfl) (by kernel_rfl) (fun _ _ _ h => h) (by kernel_rfl) ?hy4 hHeld ?hr4
                case hy4 => (intro w hSw; (try dsimp only at hSw); go_simp; try (with_reducible rfl))
                case hr4 =>
                simp only [Act.put, List.setIfInBounds_toArray, List.set_cons_zero, List.set_cons_succ]
                refine held_yes 5 41 (v := ?_) rfl rfl (by kernel_rfl) (by kernel_rfl) (by kernel_rfl) (fun _ _ _ h => h) (by kernel_rfl) ?hy5 hHeld ?hr5
                case hy5 => (intro w hSw; (try dsimp only at hSw); go_simp; try (with_reducible rfl))
                case hr5 =>
                simp only [Act.put, List.setIfInBounds_toArray, List.set_cons_zero, List.set_cons_succ]
                refine held_yes 6 42 (v := ?_) rfl rfl (by kernel_rfl) (by kernel_rfl) (by kernel_rfl) (fun _ _ _ h => h) (by kernel_rfl) ?hy6 hHeld ?hr6
                case hy6 => (intro w hSw; (try dsimp only at hSw); go_simp; try (with_reducible rfl))
                case hr6 =>
                simp only [Act.put, List.setIfInBounds_toArray, List.set_cons_zero, List.set_cons_succ]
                refine held_yes 7 43 (v := ?_) rfl rfl (by kernel_rfl) (by kernel_rfl) (by kernel_rfl) (fun _ _ _ h => h) (by kernel_rfl) ?hy7 hHeld ?hr7
                case hy7 => (intro w hSw; (try dsimp only at hSw); go_simp; try (with_reducible rfl))
                case hr7 =>
                simp only [Act.put, List.setIfInBounds_toArray, List.set_cons_zero, List.set_cons_succ]
                refine held_yes 10 46 (v := ?_) rfl rfl (by kernel_rfl) (by kernel_rfl) (by kernel_rfl) (fun _ _ _ h => h) (by kernel_rfl) ?hy10 hHeld ?hr10
                case hy10 => (intro w hSw; (try dsimp only at hSw); go_simp; try (with_reducible rfl))
                case hr10 =>
                simp only [Act.put, List.setIfInBounds_toArray, List.set_cons_zero, List.set_cons_succ]
                refine held_yes 11 47 (v := ?_) rfl rfl (by kernel_rfl) (by kernel_rfl) (by kernel_rfl) (fun _ _ _ h => h) (by kernel_rfl) ?hy11 hHeld ?hr11
                case hy11 => (intro w hSw; (try dsimp only at hSw); go_simp; try (with_reducible rfl))
                case hr11 =>
                simp only [Act.put, List.setIfInBounds_toArray, List.set_cons_zero, List.set_cons_succ]
                refine wpAnyH_ready (rs := [8]) (by kernel_rfl) (by simp) (AllReadyH.cons rfl (fun K hK => ?_) AllReadyH.nil)
                clear hHeld
                go_simp
                (first | (go_at_call 27; (with_reducible refine (hat _).mono ?_); rintro e w2 ⟨rfl, rfl⟩) | (go_at_call 26; (with_reducible refine (HL0.out _ HG).mono ?_); rintro e w3 ⟨rfl, hg3⟩; replace HG := grown_trans HG hg3; obtain ⟨t0, t1, ly, q0, q1⟩ := HCELL.out _ HG) | (go_at_call 26; (with_reducible refine (HL8.out _ HG).mono ?_); rintro e w3 ⟨rfl, hg3⟩; replace HG := grown_trans HG hg3; obtain ⟨t0, t1, ly, q0, q1⟩ := HCELL.out _ HG))
                refine hK.out _ _ (HCELL.out _ HG) (fun hHeld => ?_)
                clear hK K
                try simp only [Act.put, List.setIfInBounds_toArray, List.set_cons_zero, List.set_cons_succ]
                refine wpAnyH_ready (rs := [9]) (by kernel_rfl) (by simp) (AllReadyH.cons rfl (fun K hK => ?_) AllReadyH.nil)
                clear hHeld
                go_simp
                (first | (go_at_call 27; (with_reducible refine (hat _).mono ?_); rintro e w2 ⟨rfl, rfl⟩) | (go_at_call 26; (with_reducible refine (HL0.out _ HG).mono ?_); rintro e w3 ⟨rfl, hg3⟩; replace HG := grown_trans HG hg3; obtain ⟨t0, t1, ly, q0, q1⟩ := HCELL.out _ HG) | (go_at_call 26; (with_reducible refine (HL8.out _ HG).mono ?_); rintro e w3 ⟨rfl, hg3⟩; replace HG := grown_trans HG hg3; obtain ⟨t0, t1, ly, q0, q1⟩ := HCELL.out _ HG))
                refine hK.out _ _ (HCELL.out _ HG) (fun hHeld => ?_)
                clear hK K
                try simp only [Act.put, List.setIfInBounds_toArray, List.set_cons_zero, List.set_cons_succ]
                refine held_yes 12 48 (v := ?_) rfl rfl (by kernel_rfl) (by kernel_rfl) (by kernel_rfl) (fun _ _ _ h => h) (by kernel_rfl) ?hy12 hHeld ?hr12
                case hy12 => (intro w hSw; (try dsimp only at hSw); go_simp; try (with_reducible rfl))
                case hr12 =>
                simp only [Act.put, List.setIfInBounds_toArray, List.set_cons_zero, List.set_cons_succ]
                refine held_yes 13 49 (v := ?_) rfl rfl (by kernel_rfl) (by kernel_rfl) (by kernel_rfl) (fun _ _ _ h => h) (by kernel_rfl) ?hy13 hHeld ?hr13
                case hy13 => (intro w hSw; (try dsimp only at hSw); go_simp; try (with_reducible rfl))
                case hr13 =>
                simp only [Act.put, List.setIfInBounds_toArray, List.set_cons_zero, List.set_cons_succ]
                refine held_yes 14 50 (v := ?_) rfl rfl (by kernel_rfl) (by kernel_rfl) (by kernel_rfl) (fun _ _ _ h => h) (by kernel_rfl) ?hy14 hHeld ?hr14
                case hy14 => (intro w hSw; (try dsimp only at hSw); go_simp; try (with_reducible rfl))
                case hr14 =>
                simp only [Act.put, List.setIfInBounds_toArray, List.set_cons_zero, List.set_cons_succ]
                refine held_yes 15 51 (v := ?_) rfl rfl (by kernel_rfl) (by kernel_rfl) (by kernel_rfl) (fun _ _ _ h => h) (by kernel_rfl) ?hy15 hHeld ?hr15
                case hy15 => (intro w hSw; (try dsimp only at hSw); go_simp; try (with_reducible rfl))
                case hr15 =>
                simp only [Act.put, List.setIfInBounds_toArray, List.set_cons_zero, List.set_cons_succ]
                refine held_yes 16 52 (v := ?_) rfl rfl (by kernel_rfl) (by kernel_rfl) (by kernel_rfl) (fun _ _ _ h => h) (by kernel_rfl) ?hy16 hHeld ?hr16
                case hy16 => (intro w hSw; (try dsimp only at hSw); go_simp; try (with_reducible rfl))
                case hr16 =>
                simp only [Act.put, List.setIfInBounds_toArray, List.set_cons_zero, List.set_cons_succ]
                refine held_yes 17 53 (v := ?_) rfl rfl (by kernel_rfl) (by kernel_rfl) (by kernel_rfl) (fun _ _ _ h => h) (by kernel_rfl) ?hy17 hHeld ?hr17
                case hy17 => (intro w hSw; (try dsimp only at hSw); go_simp; try (with_reducible rfl))
                case hr17 =>
                simp only [Act.put, List.setIfInBounds_toArray, List.set_cons_zero, List.set_cons_succ]
                refine held_yes 18 54 (v := ?_) rfl rfl (by kernel_rfl) (by kernel_rfl) (by kernel_rfl) (fun _ _ _ h => h) (by kernel_rfl) ?hy18 hHeld ?hr18
                case hy18 => (intro w hSw; (try dsimp only at hSw); go_simp; try (with_reducible rfl))
                case hr18 =>
                simp only [Act.put, List.setIfInBounds_toArray, List.set_cons_zero, List.set_cons_succ]
                refine held_yes 19 55 (v := ?_) rfl rfl (by kernel_rfl) (by kernel_rfl) (by kernel_rfl) (fun _ _ _ h => h) (by kernel_rfl) ?hy19 hHeld ?hr19
                case hy19 => (intro w hSw; (try dsimp only at hSw); go_simp; try (with_reducible rfl))
                case hr19 =>
                simp only [Act.put, List.setIfInBounds_toArray, List.set_cons_zero, List.set_cons_succ]
                refine held_yes 23 59 (v := ?_) rfl rfl (by kernel_rfl) (by kernel_rfl) (by kernel_rfl) (fun _ _ _ h => h) (by kernel_rfl) ?hy23 hHeld ?hr23
                case hy23 => (intro w hSw; (try dsimp only at hSw); go_simp; try (with_reducible rfl))
                case hr23 =>
                simp only [Act.put, List.setIfInBounds_toArray, List.set_cons_zero, List.set_cons_succ]
                refine held_yes 24 60 (v := ?_) rfl rfl (by kernel_rfl) (by kernel_rfl) (by kernel_rfl) (fun _ _ _ h => h) (by kernel_rfl) ?hy24 hHeld ?hr24
                case hy24 => (intro w hSw; (try dsimp only at hSw); go_simp; try (with_reducible rfl))
                case hr24 =>
                simp only [Act.put, List.setIfInBounds_toArray, List.set_cons_zero, List.set_cons_succ]
                refine wpAnyH_ready (rs := [20]) (by kernel_rfl) (by simp) (AllReadyH.cons rfl (fun K hK => ?_) AllReadyH.nil)
                clear hHeld
                go_simp
                (first | (go_at_call 27; (with_reducible refine (hat _).mono ?_); rintro e w2 ⟨rfl, rfl⟩) | (go_at_call 26; (with_reducible refine (HL0.out _ HG).mono ?_); rintro e w3 ⟨rfl, hg3⟩; replace HG := grown_trans HG hg3; obtain ⟨t0, t1, ly, q0, q1⟩ := HCELL.out _ HG) | (go_at_call 26; (with_reducible refine (HL8.out _ HG).mono ?_); rintro e w3 ⟨rfl, hg3⟩; replace HG := grown_trans HG hg3; obtain ⟨t0, t1, ly, q0, q1⟩ := HCELL.out _ HG))
                refine hK.out _ _ (HCELL.out _ HG) (fun hHeld => ?_)
                clear hK K
                try simp only [Act.put, List.setIfInBounds_toArray, List.set_cons_zero, List.set_cons_succ]
                refine held_yes 21 57 (v := ?_) rfl rfl (by kernel_rfl) (by kernel_rfl) (by kernel_rfl) (fun _ _ _ h => h) (by kernel_rfl) ?hy21 hHeld ?hr21
                case hy21 => (intro w hSw; (try dsimp only at hSw); go_simp; try (with_reducible rfl))
                case hr21 =>
                simp only [Act.put, List.setIfInBounds_toArray, List.set_cons_zero, List.set_cons_succ]
                refine wpAnyH_ready (rs := [22]) (by kernel_rfl) (by simp) (AllReadyH.cons rfl (fun K hK => ?_) AllReadyH.nil)
                clear hHeld
                go_simp
                (first | (go_at_call 27; (with_reducible refine (hat _).mono ?_); rintro e w2 ⟨rfl, rfl⟩) | (go_at_call 26; (with_reducible refine (HL0.out _ HG).mono ?_); rintro e w3 ⟨rfl, hg3⟩; replace HG := grown_trans HG hg3; obtain ⟨t0, t1, ly, q0, q1⟩ := HCELL.out _ HG) | (go_at_call 26; (with_reducible refine (HL8.out _ HG).mono ?_); rintro e w3 ⟨rfl, hg3⟩; replace HG := grown_trans HG hg3; obtain ⟨t0, t1, ly, q0, q1⟩ := HCELL.out _ HG))
                refine hK.out _ _ (HCELL.out _ HG) (fun hHeld => ?_)
                clear hK K
                try simp only [Act.put, List.setIfInBounds_toArray, List.set_cons_zero, List.set_cons_succ]
                refine held_yes 25 61 (v := ?_) rfl rfl (by kernel_rfl) (by kernel_rfl) (by kernel_rfl) (fun _ _ _ h => h) (by kernel_rfl) ?hy25 hHeld ?hr25
                case hy25 => (intro w hSw; (try dsimp only at hSw); go_simp; try (with_reducible rfl))
                case hr25 =>
                simp only [Act.put, List.setIfInBounds_toArray, List.set_cons_zero, List.set_cons_succ]
                refine held_yes 26 62 (v := ?_) rfl rfl (by kernel_rfl) (by kernel_rfl) (by kernel_rfl) (fun _ _ _ h => h) (by kernel_rfl) ?hy26 hHeld ?hr26
                case hy26 => (intro w hSw; (try dsimp only at hSw); go_simp; try (with_reducible rfl))
                case hr26 =>
                simp only [Act.put, List.setIfInBounds_toArray, List.set_cons_zero, List.set_cons_succ]
                refine wpAnyH_done (by kernel_rfl) ?_ _
                go_wp2
                go_ret
                exact ⟨by rw [← HRR.out]; rfl, grown_trans GR.out HG⟩
              · have hxhi : ((x8 : Int) == (hi : Int)) = false := by simp; omega
                have hr := HR0.out
                rw [if_neg fun e => hxh e.2.2] at hr
                have HRR := Lib.hid hr
                clear hr hx0 hx1 hxl hxh
                have HG2 := HG
                replace HG : wr.grownBy _ none := grown_drew HG2
                obtain ⟨t0, t1, ly, q0, q1⟩ := HCELL.out _ HG
                go_wp2
                refine wp_region_held_drew (S := (fun w' => w'.cell? ⟨w.heap.size, 0, none⟩ = some wv ∧ w'.cell? ⟨w.heap.size, 1, none⟩ = some pv ∧ w'.cell? ⟨vg, k, none⟩ = some (.int .i64 (y : Nat)) ∧ w'.cell? ⟨bw, 0, none⟩ = some (.int .u64 (lo : Nat)) ∧ w'.cell? ⟨bw, 1, none⟩ = some (.int .u64 (hi : Nat)))) (by kernel_rfl) (HCELL.out _ HG) (fun hHeld => ?_)
                refine held_yes 0 36 (v := ?_) rfl rfl (by kernel_rfl) (by kernel_rfl) (by kernel_rfl) (fun _ _ _ h => h) (by kernel_rfl) ?hy0 hHeld ?hr0
                case hy0 => (intro w hSw; (try dsimp only at hSw); go_simp; try (with_reducible rfl))
                case hr0 =>
                simp only [Act.put, List.setIfInBounds_toArray, List.set_cons_zero, List.set_cons_succ]
                refine held_yes 1 37 (v := ?_) rfl rfl (by kernel_rfl) (by kernel_rfl) (by kernel_rfl) (fun _ _ _ h => h) (by kernel_rfl) ?hy1 hHeld ?hr1
                case hy1 => (intro w hSw; (try dsimp only at hSw); go_simp; try (with_reducible rfl))
                case hr1 =>
                simp only [Act.put, List.setIfInBounds_toArray, List.set_cons_zero, List.set_cons_succ]
                refine held_yes 2 38 (v := ?_) rfl rfl (by kernel_rfl) (by kernel_rfl) (by kernel_rfl) (fun _ _ _ h => h) (by kernel_rfl) ?hy2 hHeld ?hr2
                case hy2 => (intro w hSw; (try dsimp only at hSw); go_simp; try (with_reducible rfl))
                case hr2 =>
                simp only [Act.put, List.setIfInBounds_toArray, List.set_cons_zero, List.set_cons_succ]
                refine held_yes 3 39 (v := ?_) rfl rfl (by kernel_rfl) (by kernel_rfl) (by kernel_rfl) (fun _ _ _ h => h) (by kernel_rfl) ?hy3 hHeld ?hr3
                case hy3 => (intro w hSw; (try dsimp only at hSw); go_simp; try (with_reducible rfl))
                case hr3 =>
                simp only [Act.put, List.setIfInBounds_toArray, List.set_cons_zero, List.set_cons_succ]
                refine held_yes 4 40 (v := ?_) rfl rfl (by kernel_rfl) (by kernel_rfl) (by kernel_rfl) (fun _ _ _ h => h) (by kernel_rfl) ?hy4 hHeld ?hr4
                case hy4 => (intro w hSw; (try dsimp only at hSw); go_simp; try (with_reducible rfl))
                case hr4 =>
                simp only [Act.put, List.setIfInBounds_toArray, List.set_cons_zero, List.set_cons_succ]
                refine held_yes 5 41 (v := ?_) rfl rfl (by kernel_rfl) (by kernel_rfl) (by kernel_rfl) (fun _ _ _ h => h) (by kernel_rfl) ?hy5 hHeld ?hr5
                case hy5 => (intro w hSw; (try dsimp only at hSw); go_simp; try (with_reducible rfl))
                case hr5 =>
                simp only [Act.put, List.setIfInBounds_toArray, List.set_cons_zero, List.set_cons_succ]
                refine held_yes 6 42 (v := ?_) rfl rfl (by kernel_rfl) (by kernel_rfl) (by kernel_rfl) (fun _ _ _ h => h) (by kernel_rfl) ?hy6 hHeld ?hr6
                case hy6 => (intro w hSw; (try dsimp only at hSw); go_simp; try (with_reducible rfl))
                case hr6 =>
                simp only [Act.put, List.setIfInBounds_toArray, List.set_cons_zero, List.set_cons_succ]
                refine held_yes 7 43 (v := ?_) rfl rfl (by kernel_rfl) (by kernel_rfl) (by kernel_rfl) (fun _ _ _ h => h) (by kernel_rfl) ?hy7 hHeld ?hr7
                case hy7 => (intro w hSw; (try dsimp only at hSw); go_simp; try (with_reducible rfl))
                case hr7 =>
                simp only [Act.put, List.setIfInBounds_toArray, List.set_cons_zero, List.set_cons_succ]
                refine held_yes 10 46 (v := ?_) rfl rfl (by kernel_rfl) (by kernel_rfl) (by kernel_rfl) (fun _ _ _ h => h) (by kernel_rfl) ?hy10 hHeld ?hr10
                case hy10 => (intro w hSw; (try dsimp only at hSw); go_simp; try (with_reducible rfl))
                case hr10 =>
                simp only [Act.put, List.setIfInBounds_toArray, List.set_cons_zero, List.set_cons_succ]
                refine held_yes 11 47 (v := ?_) rfl rfl (by kernel_rfl) (by kernel_rfl) (by kernel_rfl) (fun _ _ _ h => h) (by kernel_rfl) ?hy11 hHeld ?hr11
                case hy11 => (intro w hSw; (try dsimp only at hSw); go_simp; try (with_reducible rfl))
                case hr11 =>
                simp only [Act.put, List.setIfInBounds_toArray, List.set_cons_zero, List.set_cons_succ]
                refine wpAnyH_ready (rs := [8]) (by kernel_rfl) (by simp) (AllReadyH.cons rfl (fun K hK => ?_) AllReadyH.nil)
                clear hHeld
                go_simp
                (first | (go_at_call 27; (with_reducible refine (hat _).mono ?_); rintro e w2 ⟨rfl, rfl⟩) | (go_at_call 26; (with_reducible refine (HL0.out _ HG).mono ?_); rintro e w3 ⟨rfl, hg3⟩; replace HG := grown_trans HG hg3; obtain ⟨t0, t1, ly, q0, q1⟩ := HCELL.out _ HG) | (go_at_call 26; (with_reducible refine (HL8.out _ HG).mono ?_); rintro e w3 ⟨rfl, hg3⟩; replace HG := grown_trans HG hg3; obtain ⟨t0, t1, ly, q0, q1⟩ := HCELL.out _ HG))
                refine hK.out _ _ (HCELL.out _ HG) (fun hHeld => ?_)
                clear hK K
                try simp only [Act.put, List.setIfInBounds_toArray, List.set_cons_zero, List.set_cons_succ]
                refine wpAnyH_ready (rs := [9]) (by kernel_rfl) (by simp) (AllReadyH.cons rfl (fun K hK => ?_) AllReadyH.nil)
                clear hHeld
                go_simp
                (first | (go_at_call 27; (with_reducible refine (hat _).mono ?_); rintro e w2 ⟨rfl, rfl⟩) | (go_at_call 26; (with_reducible refine (HL0.out _ HG).mono ?_); rintro e w3 ⟨rfl, hg3⟩; replace HG := grown_trans HG hg3; obtain ⟨t0, t1, ly, q0, q1⟩ := HCELL.out _ HG) | (go_at_call 26; (with_reducible refine (HL8.out _ HG).mono ?_); rintro e w3 ⟨rfl, hg3⟩; replace HG := grown_trans HG hg3; obtain ⟨t0, t1, ly, q0, q1⟩ := HCELL.out _ HG))
                refine hK.out _ _ (HCELL.out _ HG) (fun hHeld => ?_)
                clear hK K
                try simp only [Act.put, List.setIfInBounds_toArray, List.set_cons_zero, List.set_cons_succ]
                refine held_yes 12 48 (v := ?_) rfl rfl (by kernel_rfl) (by kernel_rfl) (by kernel_rfl) (fun _ _ _ h => h) (by kernel_rfl) ?hy12 hHeld ?hr12
                case hy12 => (intro w hSw; (try dsimp only at hSw); go_simp; try (with_reducible rfl))
                case hr12 =>
                simp only [Act.put, List.setIfInBounds_toArray, List.set_cons_zero, List.set_cons_succ]
                refine held_yes 13 49 (v := ?_) rfl rfl (by kernel_rfl) (by kernel_rfl) (by kernel_rfl) (fun _ _ _ h => h) (by kernel_rfl) ?hy13 hHeld ?hr13
                case hy13 => (intro w hSw; (try dsimp only at hSw); go_simp; try (with_reducible rfl))
                case hr13 =>
                simp only [Act.put, List.setIfInBounds_toArray, List.set_cons_zero, List.set_cons_succ]
                refine held_yes 14 50 (v := ?_) rfl rfl (by kernel_rfl) (by kernel_rfl) (by kernel_rfl) (fun _ _ _ h => h) (by kernel_rfl) ?hy14 hHeld ?hr14
                case hy14 => (intro w hSw; (try dsimp only at hSw); go_simp; try (with_reducible rfl))
                case hr14 =>
                simp only [Act.put, List.setIfInBounds_toArray, List.set_cons_zero, List.set_cons_succ]
                refine held_yes 15 51 (v := ?_) rfl rfl (by kernel_rfl) (by kernel_rfl) (by kernel_rfl) (fun _ _ _ h => h) (by kernel_rfl) ?hy15 hHeld ?hr15
                case hy15 => (intro w hSw; (try dsimp only at hSw); go_simp; try (with_reducible rfl))
                case hr15 =>
                simp only [Act.put, List.setIfInBounds_toArray, List.set_cons_zero, List.set_cons_succ]
                refine held_yes 16 52 (v := ?_) rfl rfl (by kernel_rfl) (by kernel_rfl) (by kernel_rfl) (fun _ _ _ h => h) (by kernel_rfl) ?hy16 hHeld ?hr16
                case hy16 => (intro w hSw; (try dsimp only at hSw); go_simp; try (with_reducible rfl))
                case hr16 =>
                simp only [Act.put, List.setIfInBounds_toArray, List.set_cons_zero, List.set_cons_succ]
                refine held_yes 17 53 (v := ?_) rfl rfl (by kernel_rfl) (by kernel_rfl) (by kernel_rfl) (fun _ _ _ h => h) (by kernel_rfl) ?hy17 hHeld ?hr17
                case hy17 => (intro w hSw; (try dsimp only at hSw); go_simp; try (with_reducible rfl))
                case hr17 =>
                simp only [Act.put, List.setIfInBounds_toArray, List.set_cons_zero, List.set_cons_succ]
                refine held_yes 18 54 (v := ?_) rfl rfl (by kernel_rfl) (by kernel_rfl) (by kernel_rfl) (fun _ _ _ h => h) (by kernel_rfl) ?hy18 hHeld ?hr18
                case hy18 => (intro w hSw; (try dsimp only at hSw); go_simp; try (with_reducible rfl))
                case hr18 =>
                simp only [Act.put, List.setIfInBounds_toArray, List.set_cons_zero, List.set_cons_succ]
                refine held_yes 19 55 (v := ?_) rfl rfl (by kernel_rfl) (by kernel_rfl) (by kernel_rfl) (fun _ _ _ h => h) (by kernel_rfl) ?hy19 hHeld ?hr19
                case hy19 => (intro w hSw; (try dsimp only at hSw); go_simp; try (with_reducible rfl))
                case hr19 =>
                simp only [Act.put, List.setIfInBounds_toArray, List.set_cons_zero, List.set_cons_succ]
                refine held_yes 23 59 (v := ?_) rfl rfl (by kernel_rfl) (by kernel_rfl) (by kernel_rfl) (fun _ _ _ h => h) (by kernel_rfl) ?hy23 hHeld ?hr23
                case hy23 => (intro w hSw; (try dsimp only at hSw); go_simp; try (with_reducible rfl))
                case hr23 =>
                simp only [Act.put, List.setIfInBounds_toArray, List.set_cons_zero, List.set_cons_succ]
                refine held_yes 24 60 (v := ?_) rfl rfl (by kernel_rfl) (by kernel_rfl) (by kernel_rfl) (fun _ _ _ h => h) (by kernel_rfl) ?hy24 hHeld ?hr24
                case hy24 => (intro w hSw; (try dsimp only at hSw); go_simp; try (with_reducible rfl))
                case hr24 =>
                simp only [Act.put, List.setIfInBounds_toArray, List.set_cons_zero, List.set_cons_succ]
                refine wpAnyH_ready (rs := [20]) (by kernel_rfl) (by simp) (AllReadyH.cons rfl (fun K hK => ?_) AllReadyH.nil)
                clear hHeld
                go_simp
                (first | (go_at_call 27; (with_reducible refine (hat _).mono ?_); rintro e w2 ⟨rfl, rfl⟩) | (go_at_call 26; (with_reducible refine (HL0.out _ HG).mono ?_); rintro e w3 ⟨rfl, hg3⟩; replace HG := grown_trans HG hg3; obtain ⟨t0, t1, ly, q0, q1⟩ := HCELL.out _ HG) | (go_at_call 26; (with_reducible refine (HL8.out _ HG).mono ?_); rintro e w3 ⟨rfl, hg3⟩; replace HG := grown_trans HG hg3; obtain ⟨t0, t1, ly, q0, q1⟩ := HCELL.out _ HG))
                refine hK.out _ _ (HCELL.out _ HG) (fun hHeld => ?_)
                clear hK K
                try simp only [Act.put, List.setIfInBounds_toArray, List.set_cons_zero, List.set_cons_succ]
                refine held_yes 21 57 (v := ?_) rfl rfl (by kernel_rfl) (by kernel_rfl) (by kernel_rfl) (fun _ _ _ h => h) (by kernel_rfl) ?hy21 hHeld ?hr21
                case hy21 => (intro w hSw; (try dsimp only at hSw); go_simp; try (with_reducible rfl))
                case hr21 =>
                simp only [Act.put, List.setIfInBounds_toArray, List.set_cons_zero, List.set_cons_succ]
                refine wpAnyH_ready (rs := [22]) (by kernel_rfl) (by simp) (AllReadyH.cons rfl (fun K hK => ?_) AllReadyH.nil)
                clear hHeld
                go_simp
                (first | (go_at_call 27; (with_reducible refine (hat _).mono ?_); rintro e w2 ⟨rfl, rfl⟩) | (go_at_call 26; (with_reducible refine (HL0.out _ HG).mono ?_); rintro e w3 ⟨rfl, hg3⟩; replace HG := grown_trans HG hg3; obtain ⟨t0, t1, ly, q0, q1⟩ := HCELL.out _ HG) | (go_at_call 26; (with_reducible refine (HL8.out _ HG).mono ?_); rintro e w3 ⟨rfl, hg3⟩; replace HG := grown_trans HG hg3; obtain ⟨t0, t1, ly, q0, q1⟩ := HCELL.out _ HG))
                refine hK.out _ _ (HCELL.out _ HG) (fun hHeld => ?_)
                clear hK K
                try simp only [Act.put, List.setIfInBounds_toArray, List.set_cons_zero, List.set_cons_succ]
                refine held_yes 25 61 (v := ?_) rfl rfl (by kernel_rfl) (by kernel_rfl) (by kernel_rfl) (fun _ _ _ h => h) (by kernel_rfl) ?hy25 hHeld ?hr25
                case hy25 => (intro w hSw; (try dsimp only at hSw); go_simp; try (with_reducible rfl))
                case hr25 =>
                simp only [Act.put, List.setIfInBounds_toArray, List.set_cons_zero, List.set_cons_succ]
                refine held_yes 26 62 (v := ?_) rfl rfl (by kernel_rfl) (by kernel_rfl) (by kernel_rfl) (fun _ _ _ h => h) (by kernel_rfl) ?hy26 hHeld ?hr26
                case hy26 => (intro w hSw; (try dsimp only at hSw); go_simp; try (with_reducible rfl))
                case hr26 =>
                simp only [Act.put, List.setIfInBounds_toArray, List.set_cons_zero, List.set_cons_succ]
                refine wpAnyH_done (by kernel_rfl) ?_ _
                go_wp2
                go_roundw
                case rel => exact ⟨k + 1, by omega, by go_num, grown_trans HGR.out HG, HRR⟩
                case measure => simp [intOf]; omega
            · have hxli : ((x0 : Int) == (lo : Int)) = false := by simp; omega
              have hr := HR0.out
              rw [if_neg fun e => hxl e.2.1] at hr
              have HRR := Lib.hid hr
              clear hr hx0 hx1 hxl
              have HG2 := HG
              replace HG : wr.grownBy _ none := grown_drew HG2
              obtain ⟨t0, t1, ly, q0, q1⟩ := HCELL.out _ HG
              go_wp2
              refine wp_region_held_drew (S := (fun w' => w'.cell? ⟨w.heap.size, 0, none⟩ = some wv ∧ w'.cell? ⟨w.heap.size, 1, none⟩ = some pv ∧ w'.cell? ⟨vg, k, none⟩ = some (.int .i64 (y : Nat)) ∧ w'.cell? ⟨bw, 0, none⟩ = some (.int .u64 (lo : Nat)) ∧ w'.cell? ⟨bw, 1, none⟩ = some (.int .u64 (hi : Nat)))) (by kernel_rfl) (HCELL.out _ HG) (fun hHeld => ?_)
              refine held_yes 0 36 (v := ?_) rfl rfl (by kernel_rfl) (by kernel_rfl) (by kernel_rfl) (fun _ _ _ h => h) (by kernel_rfl) ?hy0 hHeld ?hr0
              case hy0 => (intro w hSw; (try dsimp only at hSw); go_simp; try (with_reducible rfl))
              case hr0 =>
              simp only [Act.put, List.setIfInBounds_toArray, List.set_cons_zero, List.set_cons_succ]
              refine held_yes 1 37 (v := ?_) rfl rfl (by kernel_rfl) (by kernel_rfl) (by kernel_rfl) (fun _ _ _ h => h) (by kernel_rfl) ?hy1 hHeld ?hr1
              case hy1 => (intro w hSw; (try dsimp only at hSw); go_simp; try (with_reducible rfl))
              case hr1 =>
              simp only [Act.put, List.setIfInBounds_toArray, List.set_cons_zero, List.set_cons_succ]
              refine held_yes 2 38 (v := ?_) rfl rfl (by kernel_rfl) (by kernel_rfl) (by kernel_rfl) (fun _ _ _ h => h) (by kernel_rfl) ?hy2 hHeld ?hr2
              case hy2 => (intro w hSw; (try dsimp only at hSw); go_simp; try (with_reducible rfl))
              case hr2 =>
              simp only [Act.put, List.setIfInBounds_toArray, List.set_cons_zero, List.set_cons_succ]
              refine held_yes 3 39 (v := ?_) rfl rfl (by kernel_rfl) (by kernel_rfl) (by kernel_rfl) (fun _ _ _ h => h) (by kernel_rfl) ?hy3 hHeld ?hr3
              case hy3 => (intro w hSw; (try dsimp only at hSw); go_simp; try (with_reducible rfl))
              case hr3 =>
              simp only [Act.put, List.setIfInBounds_toArray, List.set_cons_zero, List.set_cons_succ]
              refine held_yes 4 40 (v := ?_) rfl rfl (by kernel_rfl) (by kernel_rfl) (by kernel_rfl) (fun _ _ _ h => h) (by kernel_rfl) ?hy4 hHeld ?hr4
              case hy4 => (intro w hSw; (try dsimp only at hSw); go_simp; try (with_reducible rfl))
              case hr4 =>
              simp only [Act.put, List.setIfInBounds_toArray, List.set_cons_zero, List.set_cons_succ]
              refine held_yes 5 41 (v := ?_) rfl rfl (by kernel_rfl) (by kernel_rfl) (by kernel_rfl) (fun _ _ _ h => h) (by kernel_rfl) ?hy5 hHeld ?hr5
              case hy5 => (intro w hSw; (try dsimp only at hSw); go_simp; try (with_reducible rfl))
              case hr5 =>
              simp only [Act.put, List.setIfInBounds_toArray, List.set_cons_zero, List.set_cons_succ]
              refine held_yes 6 42 (v := ?_) rfl rfl (by kernel_rfl) (by kernel_rfl) (by kernel_rfl) (fun _ _ _ h => h) (by kernel_rfl) ?hy6 hHeld ?hr6
              case hy6 => (intro w hSw; (try dsimp only at hSw); go_simp; try (with_reducible rfl))
              case hr6 =>
              simp only [Act.put, List.setIfInBounds_toArray, List.set_cons_zero, List.set_cons_succ]
              refine held_yes 7 43 (v := ?_) rfl rfl (by kernel_rfl) (by kernel_rfl) (by kernel_rfl) (fun _ _ _ h => h) (by kernel_rfl) ?hy7 hHeld ?hr7
              case hy7 => (intro w hSw; (try dsimp only at hSw); go_simp; try (with_reducible rfl))
              case hr7 =>
              simp only [Act.put, List.setIfInBounds_toArray, List.set_cons_zero, List.set_cons_succ]
              refine held_yes 10 46 (v := ?_) rfl rfl (by kernel_rfl) (by kernel_rfl) (by kernel_rfl) (fun _ _ _ h => h) (by kernel_rfl) ?hy10 hHeld ?hr10
              case hy10 => (intro w hSw; (try dsimp only at hSw); go_simp; try (with_reducible rfl))
              case hr10 =>
              simp only [Act.put, List.setIfInBounds_toArray, List.set_cons_zero, List.set_cons_succ]
              refine held_yes 11 47 (v := ?_) rfl rfl (by kernel_rfl) (by kernel_rfl) (by kernel_rfl) (fun _ _ _ h => h) (by kernel_rfl) ?hy11 hHeld ?hr11
              case hy11 => (intro w hSw; (try dsimp only at hSw); go_simp; try (with_reducible rfl))
              case hr11 =>
              simp only [Act.put, List.setIfInBounds_toArray, List.set_cons_zero, List.set_cons_succ]
              refine wpAnyH_ready (rs := [8]) (by kernel_rfl) (by simp) (AllReadyH.cons rfl (fun K hK => ?_) AllReadyH.nil)
              clear hHeld
              go_simp
              (first | (go_at_call 27; (with_reducible refine (hat _).mono ?_); rintro e w2 ⟨rfl, rfl⟩) | (go_at_call 26; (with_reducible refine (HL0.out _ HG).mono ?_); rintro e w3 ⟨rfl, hg3⟩; replace HG := grown_trans HG hg3; obtain ⟨t0, t1, ly, q0, q1⟩ := HCELL.out _ HG) | (go_at_call 26; (with_reducible refine (HL8.out _ HG).mono ?_); rintro e w3 ⟨rfl, hg3⟩; replace HG := grown_trans HG hg3; obtain ⟨t0, t1, ly, q0, q1⟩ := HCELL.out _ HG))
              refine hK.out _ _ (HCELL.out _ HG) (fun hHeld => ?_)
              clear hK K
              try simp only [Act.put, List.setIfInBounds_toArray, List.set_cons_zero, List.set_cons_succ]
              refine wpAnyH_ready (rs := [9]) (by kernel_rfl) (by simp) (AllReadyH.cons rfl (fun K hK => ?_) AllReadyH.nil)
              clear hHeld
              go_simp
              (first | (go_at_call 27; (with_reducible refine (hat _).mono ?_); rintro e w2 ⟨rfl, rfl⟩) | (go_at_call 26; (with_reducible refine (HL0.out _ HG).mono ?_); rintro e w3 ⟨rfl, hg3⟩; replace HG := grown_trans HG hg3; obtain ⟨t0, t1, ly, q0, q1⟩ := HCELL.out _ HG) | (go_at_call 26; (with_reducible refine (HL8.out _ HG).mono ?_); rintro e w3 ⟨rfl, hg3⟩; replace HG := grown_trans HG hg3; obtain ⟨t0, t1, ly, q0, q1⟩ := HCELL.out _ HG))
              refine hK.out _ _ (HCELL.out _ HG) (fun hHeld => ?_)
              clear hK K
              try simp only [Act.put, List.setIfInBounds_toArray, List.set_cons_zero, List.set_cons_succ]
              refine held_yes 12 48 (v := ?_) rfl rfl (by kernel_rfl) (by kernel_rfl) (by kernel_rfl) (fun _ _ _ h => h) (by kernel_rfl) ?hy12 hHeld ?hr12
              case hy12 => (intro w hSw; (try dsimp only at hSw); go_simp; try (with_reducible rfl))
              case hr12 =>
              simp only [Act.put, List.setIfInBounds_toArray, List.set_cons_zero, List.set_cons_succ]
              refine held_yes 13 49 (v := ?_) rfl rfl (by kernel_rfl) (by kernel_rfl) (by kernel_rfl) (fun _ _ _ h => h) (by kernel_rfl) ?hy13 hHeld ?hr13
              case hy13 => (intro w hSw; (try dsimp only at hSw); go_simp; try (with_reducible rfl))
              case hr13 =>
              simp only [Act.put, List.setIfInBounds_toArray, List.set_cons_zero, List.set_cons_succ]
              refine held_yes 14 50 (v := ?_) rfl rfl (by kernel_rfl) (by kernel_rfl) (by kernel_rfl) (fun _ _ _ h => h) (by kernel_rfl) ?hy14 hHeld ?hr14
              case hy14 => (intro w hSw; (try dsimp only at hSw); go_simp; try (with_reducible rfl))
              case hr14 =>
              simp only [Act.put, List.setIfInBounds_toArray, List.set_cons_zero, List.set_cons_succ]
              refine held_skip 15 51 rfl rfl (by kernel_rfl) (by kernel_rfl) (by kernel_rfl) (fun _ _ _ h => h) (by kernel_rfl) hHeld ?_
              simp only [Act.put, List.setIfInBounds_toArray, List.set_cons_zero, List.set_cons_succ]
              refine held_skip 16 52 rfl rfl (by kernel_rfl) (by kernel_rfl) (by kernel_rfl) (fun _ _ _ h => h) (by kernel_rfl) hHeld ?_
              simp only [Act.put, List.setIfInBounds_toArray, List.set_cons_zero, List.set_cons_succ]
              refine held_skip 17 53 rfl rfl (by kernel_rfl) (by kernel_rfl) (by kernel_rfl) (fun _ _ _ h => h) (by kernel_rfl) hHeld ?_
              simp only [Act.put, List.setIfInBounds_toArray, List.set_cons_zero, List.set_cons_succ]
              refine held_skip 18 54 rfl rfl (by kernel_rfl) (by kernel_rfl) (by kernel_rfl) (fun _ _ _ h => h) (by kernel_rfl) hHeld ?_
              simp only [Act.put, List.setIfInBounds_toArray, List.set_cons_zero, List.set_cons_succ]
              refine held_skip 19 55 rfl rfl (by kernel_rfl) (by kernel_rfl) (by kernel_rfl) (fun _ _ _ h => h) (by kernel_rfl) hHeld ?_
              simp only [Act.put, List.setIfInBounds_toArray, List.set_cons_zero, List.set_cons_succ]
              refine held_skip 20 56 rfl rfl (by kernel_rfl) (by kernel_rfl) (by kernel_rfl) (fun _ _ _ h => h) (by kernel_rfl) hHeld ?_
              simp only [Act.put, List.setIfInBounds_toArray, List.set_cons_zero, List.set_cons_succ]
              refine held_skip 21 57 rfl rfl (by kernel_rfl) (by kernel_rfl) (by kernel_rfl) (fun _ _ _ h => h) (by kernel_rfl) hHeld ?_
              simp only [Act.put, List.setIfInBounds_toArray, List.set_cons_zero, List.set_cons_succ]
              refine held_skip 22 58 rfl rfl (by kernel_rfl) (by kernel_rfl) (by kernel_rfl) (fun _ _ _ h => h) (by kernel_rfl) hHeld ?_
              simp only [Act.put, List.setIfInBounds_toArray, List.set_cons_zero, List.set_cons_succ]
              refine held_skip 23 59 rfl rfl (by kernel_rfl) (by kernel_rfl) (by kernel_rfl) (fun _ _ _ h => h) (by kernel_rfl) hHeld ?_
              simp only [Act.put, List.setIfInBounds_toArray, List.set_cons_zero, List.set_cons_succ]
              refine held_skip 24 60 rfl rfl (by kernel_rfl) (by kernel_rfl) (by kernel_rfl) (fun _ _ _ h => h) (by kernel_rfl) hHeld ?_
              simp only [Act.put, List.setIfInBounds_toArray, List.set_cons_zero, List.set_cons_succ]
              refine held_skip 25 61 rfl rfl (by kernel_rfl) (by kernel_rfl) (by kernel_rfl) (fun _ _ _ h => h) (by kernel_rfl) hHeld ?_
              simp only [Act.put, List.setIfInBounds_toArray, List.set_cons_zero, List.set_cons_succ]
              refine held_yes 26 62 (v := ?_) rfl rfl (by kernel_rfl) (by kernel_rfl) (by kernel_rfl) (fun _ _ _ h => h) (by kernel_rfl) ?hy26 hHeld ?hr26
              case hy26 => (intro w hSw; (try dsimp only at hSw); go_simp; try (with_reducible rfl))
              case hr26 =>
              simp only [Act.put, List.setIfInBounds_toArray, List.set_cons_zero, List.set_cons_succ]
              refine wpAnyH_done (by kernel_rfl) ?_ _
              go_wp2
              go_roundw
              case rel => exact ⟨k + 1, by omega, by go_num, grown_trans HGR.out HG, HRR⟩
              case measure => simp [intOf]; omega
          · have hx1i : ¬ (1 : Int) < (x : Int) := by omega
            have hxd : decide ((1 : Int) < (x : Int)) = false := decide_eq_false hx1i
            have hxq : x = 1 := by omega
            subst hxq
            have hr := HR0.out
            rw [if_neg fun e => hx1 e.1] at hr
            have HRR := Lib.hid hr
            clear hr hx0 hx1
            have HG2 := HG
            replace HG : wr.grownBy _ none := grown_drew HG2
            obtain ⟨t0, t1, ly, q0, q1⟩ := HCELL.out _ HG
            go_wp2
            refine wp_region_held_drew (S := (fun w' => w'.cell? ⟨w.heap.size, 0, none⟩ = some wv ∧ w'.cell? ⟨w.heap.size, 1, none⟩ = some pv ∧ w'.cell? ⟨vg, k, none⟩ = some (.int .i64 (y : Nat)) ∧ w'.cell? ⟨bw, 0, none⟩ = some (.int .u64 (lo : Nat)) ∧ w'.cell? ⟨bw, 1, none⟩ = some (.int .u64 (hi : Nat)))) (by kernel_rfl) (HCELL.out _ HG) (fun hHeld => ?_)
            refine held_yes 0 36 (v := ?_) rfl rfl (by kernel_rfl) (by kernel_rfl) (by kernel_rfl) (fun _ _ _ h => h) (by kernel_rfl) ?hy0 hHeld ?hr0
            case hy0 => (intro w hSw; (try dsimp only at hSw); go_simp; try (with_reducible rfl))
            case hr0 =>
            simp only [Act.put, List.setIfInBounds_toArray, List.set_cons_zero, List.set_cons_succ]
            refine held_yes 1 37 (v := ?_) rfl rfl (by kernel_rfl) (by kernel_rfl) (by kernel_rfl) (fun _ _ _ h => h) (by kernel_rfl) ?hy1 hHeld ?hr1
            case hy1 => (intro w hSw; (try dsimp only at hSw); go_simp; try (with_reducible rfl))
            case hr1 =>
            simp only [Act.put, List.setIfInBounds_toArray, List.set_cons_zero, List.set_cons_succ]
            refine held_yes 2 38 (v := ?_) rfl rfl (by kernel_rfl) (by kernel_rfl) (by kernel_rfl) (fun _ _ _ h => h) (by kernel_rfl) ?hy2 hHeld ?hr2
            case hy2 => (intro w hSw; (try dsimp only at hSw); go_simp; try (with_reducible rfl))
            case hr2 =>
            simp only [Act.put, List.setIfInBounds_toArray, List.set_cons_zero, List.set_cons_succ]
            refine held_skip 3 39 rfl rfl (by kernel_rfl) (by kernel_rfl) (by kernel_rfl) (fun _ _ _ h => h) (by kernel_rfl) hHeld ?_
            simp only [Act.put, List.setIfInBounds_toArray, List.set_cons_zero, List.set_cons_succ]
            refine held_skip 4 40 rfl rfl (by kernel_rfl) (by kernel_rfl) (by kernel_rfl) (fun _ _ _ h => h) (by kernel_rfl) hHeld ?_
            simp only [Act.put, List.setIfInBounds_toArray, List.set_cons_zero, List.set_cons_succ]
            refine held_skip 5 41 rfl rfl (by kernel_rfl) (by kernel_rfl) (by kernel_rfl) (fun _ _ _ h => h) (by kernel_rfl) hHeld ?_
            simp only [Act.put, List.setIfInBounds_toArray, List.set_cons_zero, List.set_cons_succ]
            refine held_skip 6 42 rfl rfl (by kernel_rfl) (by kernel_rfl) (by kernel_rfl) (fun _ _ _ h => h) (by kernel_rfl) hHeld ?_
            simp only [Act.put, List.setIfInBounds_toArray, List.set_cons_zero, List.set_cons_succ]
            refine held_skip 7 43 rfl rfl (by kernel_rfl) (by kernel_rfl) (by kernel_rfl) (fun _ _ _ h => h) (by kernel_rfl) hHeld ?_
            simp only [Act.put, List.setIfInBounds_toArray, List.set_cons_zero, List.set_cons_succ]
            refine held_skip 8 44 rfl rfl (by kernel_rfl) (by kernel_rfl) (by kernel_rfl) (fun _ _ _ h => h) (by kernel_rfl) hHeld ?_
            simp only [Act.put, List.setIfInBounds_toArray, List.set_cons_zero, List.set_cons_succ]
            refine held_skip 9 45 rfl rfl (by kernel_rfl) (by kernel_rfl) (by kernel_rfl) (fun _ _ _ h => h) (by kernel_rfl) hHeld ?_
            simp only [Act.put, List.setIfInBounds_toArray, List.set_cons_zero, List.set_cons_succ]
            refine held_skip 10 46 rfl rfl (by kernel_rfl) (by kernel_rfl) (by kernel_rfl) (fun _ _ _ h => h) (by kernel_rfl) hHeld ?_
            simp only [Act.put, List.setIfInBounds_toArray, List.set_cons_zero, List.set_cons_succ]
            refine held_skip 11 47 rfl rfl (by kernel_rfl) (by kernel_rfl) (by kernel_rfl) (fun _ _ _ h => h) (by kernel_rfl) hHeld ?_
            simp only [Act.put, List.setIfInBounds_toArray, List.set_cons_zero, List.set_cons_succ]
            refine held_skip 12 48 rfl rfl (by kernel_rfl) (by kernel_rfl) (by kernel_rfl) (fun _ _ _ h => h) (by kernel_rfl) hHeld ?_
            simp only [Act.put, List.setIfInBounds_toArray, List.set_cons_zero, List.set_cons_succ]
            refine held_yes 13 49 (v := ?_) rfl rfl (by kernel_rfl) (by kernel_rfl) (by kernel_rfl) (fun _ _ _ h => h) (by kernel_rfl) ?hy13 hHeld ?hr13
            case hy13 => (intro w hSw; (try dsimp only at hSw); go_simp; try (with_reducible rfl))
            case hr13 =>
            simp only [Act.put, List.setIfInBounds_toArray, List.set_cons_zero, List.set_cons_succ]
            refine held_yes 14 50 (v := ?_) rfl rfl (by kernel_rfl) (by kernel_rfl) (by kernel_rfl) (fun _ _ _ h => h) (by kernel_rfl) ?hy14 hHeld ?hr14
            case hy14 => (intro w hSw; (try dsimp only at hSw); go_simp; try (with_reducible rfl))
            case hr14 =>
            simp only [Act.put, List.setIfInBounds_toArray, List.set_cons_zero, List.set_cons_succ]
            refine held_skip 15 51 rfl rfl (by kernel_rfl) (by kernel_rfl) (by kernel_rfl) (fun _ _ _ h => h) (by kernel_rfl) hHeld ?_
            simp only [Act.put, List.setIfInBounds_toArray, List.set_cons_zero, List.set_cons_succ]
            refine held_skip 16 52 rfl rfl (by kernel_rfl) (by kernel_rfl) (by kernel_rfl) (fun _ _ _ h => h) (by kernel_rfl) hHeld ?_
            simp only [Act.put, List.setIfInBounds_toArray, List.set_cons_zero, List.set_cons_succ]
            refine held_skip 17 53 rfl rfl (by kernel_rfl) (by kernel_rfl) (by kernel_rfl) (fun _ _ _ h => h) (by kernel_rfl) hHeld ?_
            simp only [Act.put, List.setIfInBounds_toArray, List.set_cons_zero, List.set_cons_succ]
            refine held_skip 18 54 rfl rfl (by kernel_rfl) (by kernel_rfl) (by kernel_rfl) (fun _ _ _ h => h) (by kernel_rfl) hHeld ?_
            simp only [Act.put, List.setIfInBounds_toArray, List.set_cons_zero, List.set_cons_succ]
            refine held_skip 19 55 rfl rfl (by kernel_rfl) (by kernel_rfl) (by kernel_rfl) (fun _ _ _ h => h) (by kernel_rfl) hHeld ?_
            simp only [Act.put, List.setIfInBounds_toArray, List.set_cons_zero, List.set_cons_succ]
            refine held_skip 20 56 rfl rfl (by kernel_rfl) (by kernel_rfl) (by kernel_rfl) (fun _ _ _ h => h) (by kernel_rfl) hHeld ?_
            simp only [Act.put, List.setIfInBounds_toArray, List.set_cons_zero, List.set_cons_succ]
            refine held_skip 21 57 rfl rfl (by kernel_rfl) (by kernel_rfl) (by kernel_rfl) (fun _ _ _ h => h) (by kernel_rfl) hHeld ?_
            simp only [Act.put, List.setIfInBounds_toArray, List.set_cons_zero, List.set_cons_succ]
            refine held_skip 22 58 rfl rfl (by kernel_rfl) (by kernel_rfl) (by kernel_rfl) (fun _ _ _ h => h) (by kernel_rfl) hHeld ?_
            simp only [Act.put, List.setIfInBounds_toArray, List.set_cons_zero, List.set_cons_succ]
            refine held_skip 23 59 rfl rfl (by kernel_rfl) (by kernel_rfl) (by kernel_rfl) (fun _ _ _ h => h) (by kernel_rfl) hHeld ?_
            simp only [Act.put, List.setIfInBounds_toArray, List.set_cons_zero, List.set_cons_succ]
            refine held_skip 24 60 rfl rfl (by kernel_rfl) (by kernel_rfl) (by kernel_rfl) (fun _ _ _ h => h) (by kernel_rfl) hHeld ?_
            simp only [Act.put, List.setIfInBounds_toArray, List.set_cons_zero, List.set_cons_succ]
            refine held_skip 25 61 rfl rfl (by kernel_rfl) (by kernel_rfl) (by kernel_rfl) (fun _ _ _ h => h) (by kernel_rfl) hHeld ?_
            simp only [Act.put, List.setIfInBounds_toArray, List.set_cons_zero, List.set_cons_succ]
            refine held_yes 26 62 (v := ?_) rfl rfl (by kernel_rfl) (by kernel_rfl) (by kernel_rfl) (fun _ _ _ h => h) (by kernel_rfl) ?hy26 hHeld ?hr26
            case hy26 => (intro w hSw; (try dsimp only at hSw); go_simp; try (with_reducible rfl))
            case hr26 =>
            simp only [Act.put, List.setIfInBounds_toArray, List.set_cons_zero, List.set_cons_succ]
            refine wpAnyH_done (by kernel_rfl) ?_ _
            go_wp2
            go_roundw
            case rel => exact ⟨k + 1, by omega, by go_num, grown_trans HGR.out HG, HRR⟩
            case measure => simp [intOf]; omega
      · obtain rfl : k = 16 := by omega
        have hr := HR.out
        have gr := grown_trans HG0.out (grown_trans g2 hgr)
        clear h1 HR
        go_wp2
        go_ret
        exact ⟨by rw [← hr]; rfl, gr⟩
  · rw [if_neg hok]
    simp only [decide_eq_false hok] at hpk
    clear hok ER HL HB
    go_enter Try.func25, Try.ntmps25
    go_wp2_with (first
      | (go_at_call 29; (with_reducible refine (hpk _).mono ?_); rintro e w1 ⟨rfl, hg1⟩; have ga := World.grownBy_alloc w1 (.cells #[.int .u64 (lo : Nat), .int .u64 (hi : Nat)] 63) none)
      | (go_at_call 43; (with_reducible refine (hway _).mono ?_); rintro e w2 ⟨v, rfl, ho, hg2⟩))
    clear hway hpk
    obtain ⟨va, vn, vc, rfl⟩ := iv_form ho
    have gr := grown_trans HG0.out (grown_trans hg1 (grown_trans ga hg2))
    clear ho
    go_loopw [8] (fun i wr => i = .int .i64 0 ∧ wr = w2) (fun _ _ => 0)
    case atStart => exact ⟨rfl, rfl⟩
    case round =>
      obtain ⟨rfl, rfl⟩ := hrel
      by_cases hvn : (0 : Int) < (vn : Int)
      · go_wp2
        go_ret
        exact ⟨rfl, gr⟩
      · go_wp2
        go_ret
        exact ⟨rfl, gr⟩
end
end Go.Proofs.Ytkkkgikmeiocaaa
