/-
  Whatever is done to clients, whatever words stand in a segment: what each tells, all words that are thought of, and who is of any state. The statement ClientPlays, for all words, all deeds, and every number; no condition.
-/
import Derived.Test.YtndoedcaoklfgaaCliH
namespace Go.Proofs.Ytndoedcaoklfgaa.clientPlays
open Go.ChangeShapes Go.WideShapes Go.ChangeAt Go.RowKit
set_option linter.unusedVariables false
set_option linter.unusedSimpArgs false

set_option maxRecDepth 100000 in
set_option maxHeartbeats 16000000 in
theorem core {la : Option Addr} {m k0 : Nat} {X V : Nat → Nat} (hm : m ≤ maxLen) {w : World} (hp : PutsAt w la m X V) {la2 : Option Addr} {n c2 : Nat} {A C : Nat → Int} {O : Nat → Nat} (hn : n ≤ maxLen) (hd : DeedsAt w la2 n A C O) (s : Nat) :
    Calls Try.prog 3 #[.slice la m k0, .slice la2 n c2, .int .u64 s] w fun e w' => e = .returned (.bool true) ∧ w.grownBy w' none := by
  have hfo : ∀ w1, w.grownBy w1 none → Calls Try.prog 10 #[.int .u64 4480, .slice la m k0] w1 _ := fun w1 hg => formed8_any (n := 4480) (c2 := k0) (by decide) (hp.later hg) hm
  obtain ⟨l0, hl⟩ : ∃ l, thinkL (fmt48 4480) X V (min m 60) = l := ⟨_, rfl⟩
  rw [hl] at hfo
  have hwl : (fmt48 4480).length ≤ 131072 := by rw [fmt48_len]; decide
  have hll : ∀ (w : World) (T M : Nat) (R : Option Nat) (B D : Nat) (l : List (Nat × Nat)) (h : Thinks w T M R B D (fmt48 4480) l), l.length ≤ 1000000 := fun w T M R B D l h => by have := h.ok.len; rw [fmt48_len] at this; omega
  obtain ⟨ws, hws⟩ : ∃ ws, fmt48 4480 = ws := ⟨_, rfl⟩
  rw [hws] at hfo hwl hll
  have hmx := hm
  unfold maxLen at hn
  clear hws hl hp hm
  by_cases h30 : 30 < (n : Int)
  · go_enter Try.func3, Try.ntmps3
    go_wp2_with (first | (go_at_call 9; ((with_reducible refine (awake8 _).mono ?_); rintro e w1 ⟨rfl, hg1⟩)))
    go_ret
    exact ⟨rfl, hg1⟩
  · go_enter Try.func3, Try.ntmps3
    go_wp2_with (first | (go_at_call 9; ((with_reducible refine (awake8 _).mono ?_); rintro e w1 ⟨rfl, hg1⟩)) | (go_at_call 10; ((with_reducible refine (hfo _ hg1).mono ?_); rintro e w2 ⟨B, D, T, M, R, wv, pv, rfl, X1, hrt, hap⟩; obtain ⟨wa, wn, wc, hwv⟩ := wv_form hrt.words; subst hwv; obtain ⟨pa, pn, pc, hpv⟩ := pv_form hrt.puts; subst hpv)))
    have hgx := World.grownBy_alloc w2 (.cells #[.slice wa wn wc, .slice pa pn pc] 29) none
    have hbx : w1.heap.size ≤ w2.heap.size := X1.since.size
    have R0 : PlRel w1 T M B D w2.heap.size (.slice wa wn wc) ws l0 (w2.alloc (.cells #[.slice wa wn wc, .slice pa pn pc] 29)) := ⟨⟨R, X1.later hgx, hap⟩, ⟨_, heap_alloc_new' _ _, hrt.later hgx⟩⟩
    clear hgx X1 hrt hap hfo
    generalize w2.heap.size = bx at *
    go_loopw [10] (fun i wr => ∃ k : Nat, k ≤ n ∧ i = .int .i64 k ∧ ∃ l, PlRel w1 T M B D bx (.slice wa wn wc) ws l wr) (fun i _ => n - (intOf i).toNat)
    case atStart => exact ⟨0, Nat.zero_le _, rfl, l0, R0⟩
    case round =>
      obtain ⟨k, hk, rfl, l, R⟩ := hrel
      clear R0
      by_cases hlt : k < n
      · have hgr := R.since
        have hgw := grown_trans hg1 hgr
        obtain ⟨b, off, rfl, hb, hcs⟩ := (hd.later hgw).cells (by omega)
        obtain ⟨c0, c1, c3⟩ := hcs k hlt
        have ho := hd.lt k
        have hcl : ∀ w', w.grownBy w' none → w'.cell? ⟨b, off + k * 3, none⟩ = some (.int .i64 (A k)) ∧ w'.cell? ⟨b, off + k * 3 + 1, none⟩ = some (.int .i64 (C k)) ∧ w'.cell? ⟨b, off + k * 3 + 2, none⟩ = some (.int .u64 (O k : Nat)) ∧ b < w'.heap.size := fun w' hg => by
          obtain ⟨b', off', e, hbw, h⟩ := (hd.later hg).cells (by omega)
          injection e with e
          injection e with e1 e2
          subst e1
          subst e2
          obtain ⟨h1, h2, h3⟩ := h k hlt
          exact ⟨h1, h2, h3, hbw⟩
        obtain ⟨a, ha⟩ : ∃ a, A k = a := ⟨_, rfl⟩
        obtain ⟨d, hdd⟩ : ∃ d, C k = d := ⟨_, rfl⟩
        obtain ⟨o, hoo⟩ : ∃ o, O k = o := ⟨_, rfl⟩
        rw [ha, hdd, hoo] at hcl
        rw [ha] at c0
        rw [hdd] at c1
        rw [hoo] at c3 ho
        have HCL := Lib.hid hcl
        clear hcl hcs ha hdd hoo
        by_cases h1 : a < 1
        · go_wp2
          go_ret
          exact ⟨rfl, hgw⟩
        · by_cases h5 : 5 < a
          · go_wp2
            go_ret
            exact ⟨rfl, hgw⟩
          · have hde := R.deal a d o ho
            by_cases ha5 : a = 5
            · subst ha5
              rw [(deal_point ws l d o).1, (deal_point ws l d o).2] at hde
              go_wp2_with (first | (go_at_call 11; (go_must (with_reducible refine hde.mono ?_); rintro e w3 ⟨rfl, Q⟩; have hg3 := grown_trans hg1 Q.since; obtain ⟨z0, z1, z2, z3⟩ := HCL.out w3 hg3)))
              obtain ⟨R3, hT3, hap3⟩ := R.tx
              have hll3 := hll _ _ _ _ _ _ _ hT3.tx
              have hq : w3.grownBy w3.drew none := grown_drew (grown_refl _ _)
              obtain ⟨pv3, hbox, hrt⟩ := Q.box
              obtain ⟨pa3, pn3, pc3, hpv3⟩ := pv_form hrt.puts
              subst hpv3
              obtain ⟨d0, d1, _, _⟩ := tx_cells hbox
              have hst : Calls Try.prog 12 #[.agg #[.slice wa wn wc, .slice pa3 pn3 pc3], .int .i64 d, .int .u64 8, .int .u64 o] w3.drew _ := rcset_any (hrt.later hq) (grown_trans Q.since hq).size hwl hll3 d 8 o
              have HQ := Lib.hid Q
              have HB := Lib.hid hbox
              clear Q hbox hrt R hT3 hap3 hde
              go_still_tail 11, (by kernel_rfl)
              go_wp2_with (first | (go_at_call 12; go_must ((with_reducible refine hst.mono ?_); rintro e w4 ⟨pv4, rfl, hr4, hg4⟩; obtain ⟨pa4, pn4, pc4, hpv4⟩ := pv_form hr4.puts; subst hpv4; have hb4 := (hg4.block _ (lt_of_block HB.out) (by simp)).trans HB.out; obtain ⟨e0, e1, f0, f1⟩ := tx_cells hb4)))
              have R5 := HQ.out.stored (grown_trans hq hg4) hr4 hbx
              clear HQ HB hb4 e0 e1 f0 f1 hst d0 d1 z0 z1 z2 z3 hg3 hgr hgw
              obtain ⟨v, hv⟩ : ∃ v, (w4.setCell ⟨bx, 0, none⟩ (.slice wa wn wc)).setCell ⟨bx, 1, none⟩ (.slice pa4 pn4 pc4) = v := ⟨_, rfl⟩
              rw [hv] at R5 ⊢
              obtain ⟨l', hl'⟩ : ∃ l', cSet ws l d 8 o = l' := ⟨_, rfl⟩
              rw [hl'] at R5
              clear hv hl'
              obtain ⟨R6, X6, _⟩ := R5.tx
              obtain ⟨pv6, hb6, hrt6⟩ := R5.box
              obtain ⟨pa6, pn6, pc6, hpv6⟩ := pv_form hrt6.puts
              subst hpv6
              have hll6 := hll _ _ _ _ _ _ _ X6.tx
              have hgw6 := grown_trans hg1 R5.since
              have hcell : ∀ {wr : World}, v.grownBy wr none → wr.cell? ⟨bx, 0, none⟩ = some (.slice wa wn wc) ∧ wr.cell? ⟨bx, 1, none⟩ = some (.slice pa6 pn6 pc6) ∧ wr.cell? ⟨b, off + k * 3 + 1, none⟩ = some (.int .i64 d) := fun {wr} hg => by
                obtain ⟨h1, h2, _, _⟩ := tx_cells ((hg.block _ (lt_of_block hb6) (by simp)).trans hb6)
                exact ⟨h1, h2, (HCL.out wr (grown_trans hgw6 hg)).2.1⟩
              have hsS := fun (w' : World) (hg : v.grownBy w' none) => cstate_any (X6.later hg).tx d
              have hsH := fun (w' : World) (hg : v.grownBy w' none) => chead_any (X6.later hg).tx d
              have hsG : ∀ (w' : World) (hg : v.grownBy w' none), Calls Try.prog 15 #[.agg #[.slice wa wn wc, .slice pa6 pn6 pc6], .int .i64 d, .int .u64 0] w' _ := fun w' hg => rcget_any (hrt6.later hg) hwl hll6 d 0
              have hsJ : ∀ (w' : World) (hg : v.grownBy w' none), Calls Try.prog 15 #[.agg #[.slice wa wn wc, .slice pa6 pn6 pc6], .int .i64 d, .int .u64 8] w' _ := fun w' hg => rcget_any (hrt6.later hg) hwl hll6 d 8
              obtain ⟨x, hx⟩ : ∃ x, cGet ws l' d 0 = x := ⟨_, rfl⟩
              obtain ⟨y, hy⟩ : ∃ y, cGet ws l' d 8 = y := ⟨_, rfl⟩
              rw [hx] at hsS hsG
              rw [hy] at hsH hsJ
              have hxx : ((x : Int) != (x : Int)) = false := by simp
              have hyy : ((y : Int) != (y : Int)) = false := by simp
              clear hx hy hrt6 X6 hll6
              have R7 := Lib.hid R5
              clear R5
              obtain ⟨c0, c1, c3⟩ := hcell (grown_drew (grown_refl v none))
              have HG : v.grownBy v.drew none := grown_drew (grown_refl _ _)
              go_region_held3 (fun w' => w'.cell? ⟨bx, 0, none⟩ = some (.slice wa wn wc) ∧ w'.cell? ⟨bx, 1, none⟩ = some (.slice pa6 pn6 pc6) ∧ w'.cell? ⟨b, off + k * 3 + 1, none⟩ = some (.int .i64 d)) (go_keep)
                (first | (go_at_call 14; ((with_reducible refine (hsS _ HG).mono ?_); rintro e w9 ⟨rfl, hg9⟩; replace HG := grown_trans HG hg9; obtain ⟨m0, m1, m2⟩ := hcell HG)) | (go_at_call 16; ((with_reducible refine (hsH _ HG).mono ?_); rintro e w9 ⟨rfl, hg9⟩; replace HG := grown_trans HG hg9; obtain ⟨m0, m1, m2⟩ := hcell HG)) | (go_at_call 15; ((with_reducible refine (hsG _ HG).mono ?_); rintro e w9 ⟨rfl, hg9⟩; replace HG := grown_trans HG hg9; obtain ⟨m0, m1, m2⟩ := hcell HG)) | (go_at_call 15; ((with_reducible refine (hsJ _ HG).mono ?_); rintro e w9 ⟨rfl, hg9⟩; replace HG := grown_trans HG hg9; obtain ⟨m0, m1, m2⟩ := hcell HG)))
              go_wp2
              exact ⟨⟨k + 1, by omega, by go_num, l', R7.out.later HG⟩, by simp [intOf]; omega⟩
            · have ha4 : 1 ≤ a ∧ a ≤ 4 := by omega
              rw [(deal_did ha4.1 ha4.2 ws l d o).1, (deal_did ha4.1 ha4.2 ws l d o).2] at hde
              have hdo := fun (w' : World) (pv : Value) (h : RTx w' w1.heap.size (.slice wa wn wc) pv ws l) (hb : w1.heap.size ≤ w'.heap.size) (hl : l.length ≤ 1000000) => rcdo_any h hb hwl hl a d
              obtain ⟨en, hen⟩ : ∃ en, didE ws l a d = en := ⟨_, rfl⟩
              rw [hen] at hde hdo
              have hee : ((en : Int) != (en : Int)) = false := by simp
              clear hen
              go_wp2_with (first | (go_at_call 11; (go_must (with_reducible refine hde.mono ?_); rintro e w3 ⟨rfl, Q⟩; have hg3 := grown_trans hg1 Q.since; obtain ⟨z0, z1, z2, z3⟩ := HCL.out w3 hg3)))
              obtain ⟨R3, hT3, hap3⟩ := R.tx
              have hll3 := hll _ _ _ _ _ _ _ hT3.tx
              have hq : w3.grownBy w3.drew none := grown_drew (grown_refl _ _)
              obtain ⟨pv3, hbox, hrt⟩ := Q.box
              obtain ⟨pa3, pn3, pc3, hpv3⟩ := pv_form hrt.puts
              subst hpv3
              obtain ⟨d0, d1, _, _⟩ := tx_cells hbox
              have hHD : ∀ wr : World, w3.grownBy wr none → Calls Try.prog 13 #[.agg #[.slice wa wn wc, .slice pa3 pn3 pc3], .int .i64 a, .int .i64 d] wr _ := fun wr hg => hdo wr _ (hrt.later hg) (Nat.le_trans Q.since.size hg.size) hll3
              have hcell : ∀ {wr : World}, w3.grownBy wr none → wr.cell? ⟨bx, 0, none⟩ = some (.slice wa wn wc) ∧ wr.cell? ⟨bx, 1, none⟩ = some (.slice pa3 pn3 pc3) ∧ wr.frozen? ⟨bx, 0, none⟩ = false ∧ wr.frozen? ⟨bx, 1, none⟩ = false ∧ wr.cell? ⟨b, off + k * 3, none⟩ = some (.int .i64 a) ∧ wr.cell? ⟨b, off + k * 3 + 1, none⟩ = some (.int .i64 d) := fun {wr} hg => by
                obtain ⟨h1, h2, h3, h4⟩ := tx_cells ((hg.block _ (lt_of_block hbox) (by simp)).trans hbox)
                obtain ⟨q1, q2, _⟩ := HCL.out wr (grown_trans hg3 hg)
                exact ⟨h1, h2, h3, h4, q1, q2⟩
              have hb3 : bx < w3.heap.size := lt_of_block hbox
              have hbb := z3
              have hnb : w3.heap.size ≠ b := by omega
              have hnx : w3.heap.size ≠ bx := by omega
              have HQ := Lib.hid Q
              have HB := Lib.hid hbox
              clear Q hbox hrt R hT3 hap3 hde hdo hq hgr hgw c0 c1 c3 z0 z1 z2
              obtain ⟨m0, m1, m2, m3, m4, m5⟩ := hcell (grown_drew (grown_refl w3 none))
              have HG : w3.grownBy w3.drew none := grown_drew (grown_refl _ _)
              have HA0 : w3.grownBy (w3.alloc (.cells #[.slice none 0 0, .slice none 0 0] 29)) none := World.grownBy_alloc _ _ _
              have HA : w3.grownBy (w3.alloc (.cells #[.slice none 0 0, .slice none 0 0] 29)).drew none := grown_drew HA0
              obtain ⟨n0, n1, n2, n3, n4, n5⟩ := hcell HA0
              go_region_held3 (fun w' => w'.cell? ⟨bx, 0, none⟩ = some (.slice wa wn wc) ∧ w'.cell? ⟨bx, 1, none⟩ = some (.slice pa3 pn3 pc3) ∧ w'.cell? ⟨b, off + k * 3, none⟩ = some (.int .i64 a) ∧ w'.cell? ⟨b, off + k * 3 + 1, none⟩ = some (.int .i64 d)) (go_keep)
                (first | (go_at_call 13; ((with_reducible refine (hHD _ HG).mono ?_); rintro e w4 ⟨pv4, rfl, hr4, hg4⟩; obtain ⟨pa4, pn4, pc4, hpv4⟩ := pv_form hr4.puts; subst hpv4; obtain ⟨p0, p1, p2, p3, p4, p5⟩ := hcell (grown_trans HG hg4); obtain ⟨o0, o1, o2, o3, o4, o5⟩ := hcell (grown_trans (grown_trans HG hg4) (World.grownBy_alloc w4 (.cells #[.slice none 0 0, .slice none 0 0] 29) none)))) | (go_at_call 13; ((with_reducible refine (hHD _ HA).mono ?_); rintro e w4 ⟨pv4, rfl, hr4, hg4⟩; obtain ⟨pa4, pn4, pc4, hpv4⟩ := pv_form hr4.puts; subst hpv4; obtain ⟨p0, p1, p2, p3, p4, p5⟩ := hcell (grown_trans HA hg4); have hyb := (hg4.block _ (lt_of_block (heap_alloc_new' w3 _)) (by simp)).trans (heap_alloc_new' w3 (.cells #[.slice none 0 0, .slice none 0 0] 29)); obtain ⟨y0, y1, y2, y3⟩ := tx_cells hyb)))
              all_goals rename_i hHeld
              · have gY : w3.grownBy (w4.alloc (.cells #[.slice wa wn wc, .slice pa4 pn4 pc4] 29)) none := grown_trans (grown_trans HG hg4) (World.grownBy_alloc w4 (.cells #[.slice wa wn wc, .slice pa4 pn4 pc4] 29) none)
                have rY : RTx (w4.alloc (.cells #[.slice wa wn wc, .slice pa4 pn4 pc4] 29)) w1.heap.size (.slice wa wn wc) (.slice pa4 pn4 pc4) ws (didL ws l a d) := hr4.later (World.grownBy_alloc w4 (.cells #[.slice wa wn wc, .slice pa4 pn4 pc4] 29) none)
                have cY : (w4.alloc (.cells #[.slice wa wn wc, .slice pa4 pn4 pc4] 29)).heap[w4.heap.size]? = some (.cells #[.slice wa wn wc, .slice pa4 pn4 pc4] 29 (0, 0)) := heap_alloc_new' w4 _
                obtain ⟨vY, hvY⟩ : ∃ v, w4.alloc (.cells #[.slice wa wn wc, .slice pa4 pn4 pc4] 29) = v := ⟨_, rfl⟩
                obtain ⟨yb, hyb2⟩ : ∃ y, w4.heap.size = y := ⟨_, rfl⟩
                rw [hvY] at gY rY cY ⊢
                rw [hyb2] at cY ⊢
                clear hvY hyb2
                obtain ⟨u0, u1, _, _⟩ := tx_cells cY
                obtain ⟨k0', k1', k2', k3', _, _⟩ := hcell gY
                clear hHeld m0 m1 m2 m3 m4 m5 n0 n1 n2 n3 n4 n5 p0 p1 p2 p3 p4 p5 hHD hr4 HG HA HA0 hg4
                have R5 := HQ.out.stored gY rY hbx
                go_wp2
                clear u0 u1 k0' k1' k2' k3' gY rY cY HQ HB hcell
                obtain ⟨v, hv⟩ : ∃ v, (vY.setCell ⟨bx, 0, none⟩ (.slice wa wn wc)).setCell ⟨bx, 1, none⟩ (.slice pa4 pn4 pc4) = v := ⟨_, rfl⟩
                rw [hv] at R5 ⊢
                obtain ⟨l', hl'⟩ : ∃ l', didL ws l a d = l' := ⟨_, rfl⟩
                rw [hl'] at R5
                clear hv hl'
                obtain ⟨R6, X6, _⟩ := R5.tx
                obtain ⟨pv6, hb6, hrt6⟩ := R5.box
                obtain ⟨pa6, pn6, pc6, hpv6⟩ := pv_form hrt6.puts
                subst hpv6
                have hll6 := hll _ _ _ _ _ _ _ X6.tx
                have hgw6 := grown_trans hg1 R5.since
                have hcell : ∀ {wr : World}, v.grownBy wr none → wr.cell? ⟨bx, 0, none⟩ = some (.slice wa wn wc) ∧ wr.cell? ⟨bx, 1, none⟩ = some (.slice pa6 pn6 pc6) ∧ wr.cell? ⟨b, off + k * 3 + 1, none⟩ = some (.int .i64 d) := fun {wr} hg => by
                  obtain ⟨h1, h2, _, _⟩ := tx_cells ((hg.block _ (lt_of_block hb6) (by simp)).trans hb6)
                  exact ⟨h1, h2, (HCL.out wr (grown_trans hgw6 hg)).2.1⟩
                have hsS := fun (w' : World) (hg : v.grownBy w' none) => cstate_any (X6.later hg).tx d
                have hsH := fun (w' : World) (hg : v.grownBy w' none) => chead_any (X6.later hg).tx d
                have hsG : ∀ (w' : World) (hg : v.grownBy w' none), Calls Try.prog 15 #[.agg #[.slice wa wn wc, .slice pa6 pn6 pc6], .int .i64 d, .int .u64 0] w' _ := fun w' hg => rcget_any (hrt6.later hg) hwl hll6 d 0
                have hsJ : ∀ (w' : World) (hg : v.grownBy w' none), Calls Try.prog 15 #[.agg #[.slice wa wn wc, .slice pa6 pn6 pc6], .int .i64 d, .int .u64 8] w' _ := fun w' hg => rcget_any (hrt6.later hg) hwl hll6 d 8
                obtain ⟨x, hx⟩ : ∃ x, cGet ws l' d 0 = x := ⟨_, rfl⟩
                obtain ⟨y, hy⟩ : ∃ y, cGet ws l' d 8 = y := ⟨_, rfl⟩
                rw [hx] at hsS hsG
                rw [hy] at hsH hsJ
                have hxx : ((x : Int) != (x : Int)) = false := by simp
                have hyy : ((y : Int) != (y : Int)) = false := by simp
                clear hx hy hrt6 X6 hll6
                have R7 := Lib.hid R5
                clear R5
                obtain ⟨c0, c1, c3⟩ := hcell (grown_drew (grown_refl v none))
                have HG : v.grownBy v.drew none := grown_drew (grown_refl _ _)
                go_region_held3 (fun w' => w'.cell? ⟨bx, 0, none⟩ = some (.slice wa wn wc) ∧ w'.cell? ⟨bx, 1, none⟩ = some (.slice pa6 pn6 pc6) ∧ w'.cell? ⟨b, off + k * 3 + 1, none⟩ = some (.int .i64 d)) (go_keep)
                  (first | (go_at_call 14; ((with_reducible refine (hsS _ HG).mono ?_); rintro e w9 ⟨rfl, hg9⟩; replace HG := grown_trans HG hg9; obtain ⟨m0, m1, m2⟩ := hcell HG)) | (go_at_call 16; ((with_reducible refine (hsH _ HG).mono ?_); rintro e w9 ⟨rfl, hg9⟩; replace HG := grown_trans HG hg9; obtain ⟨m0, m1, m2⟩ := hcell HG)) | (go_at_call 15; ((with_reducible refine (hsG _ HG).mono ?_); rintro e w9 ⟨rfl, hg9⟩; replace HG := grown_trans HG hg9; obtain ⟨m0, m1, m2⟩ := hcell HG)) | (go_at_call 15; ((with_reducible refine (hsJ _ HG).mono ?_); rintro e w9 ⟨rfl, hg9⟩; replace HG := grown_trans HG hg9; obtain ⟨m0, m1, m2⟩ := hcell HG)))
                go_wp2
                exact ⟨⟨k + 1, by omega, by go_num, l', R7.out.later HG⟩, by simp [intOf]; omega⟩
              · have gY : w3.grownBy ((w4.setCell ⟨w3.heap.size, 0, none⟩ (.slice wa wn wc)).setCell ⟨w3.heap.size, 1, none⟩ (.slice pa4 pn4 pc4)) none := (res_put (u := .slice wa wn wc) (v := .slice pa4 pn4 pc4) (grown_trans HA hg4) (Nat.le_refl _) hyb hr4).2
                have rY : RTx ((w4.setCell ⟨w3.heap.size, 0, none⟩ (.slice wa wn wc)).setCell ⟨w3.heap.size, 1, none⟩ (.slice pa4 pn4 pc4)) w1.heap.size (.slice wa wn wc) (.slice pa4 pn4 pc4) ws (didL ws l a d) := (res_put (u := .slice wa wn wc) (v := .slice pa4 pn4 pc4) (grown_trans HA hg4) (Nat.le_refl _) hyb hr4).1
                have cY : ((w4.setCell ⟨w3.heap.size, 0, none⟩ (.slice wa wn wc)).setCell ⟨w3.heap.size, 1, none⟩ (.slice pa4 pn4 pc4)).heap[w3.heap.size]? = some (.cells #[.slice wa wn wc, .slice pa4 pn4 pc4] 29 (0, 0)) := by rw [heap_setCell_same (heap_setCell_same hyb (.slice wa wn wc)) (.slice pa4 pn4 pc4)]; rfl
                obtain ⟨vY, hvY⟩ : ∃ v, (w4.setCell ⟨w3.heap.size, 0, none⟩ (.slice wa wn wc)).setCell ⟨w3.heap.size, 1, none⟩ (.slice pa4 pn4 pc4) = v := ⟨_, rfl⟩
                obtain ⟨yb, hyb2⟩ : ∃ y, w3.heap.size = y := ⟨_, rfl⟩
                rw [hvY] at gY rY cY ⊢
                rw [hyb2] at cY ⊢
                clear hvY hyb2
                obtain ⟨u0, u1, _, _⟩ := tx_cells cY
                obtain ⟨k0', k1', k2', k3', _, _⟩ := hcell gY
                clear hHeld m0 m1 m2 m3 m4 m5 n0 n1 n2 n3 n4 n5 p0 p1 p2 p3 p4 p5 hHD hr4 HG HA HA0 hg4
                have R5 := HQ.out.stored gY rY hbx
                go_wp2
                clear u0 u1 k0' k1' k2' k3' gY rY cY HQ HB hcell
                obtain ⟨v, hv⟩ : ∃ v, (vY.setCell ⟨bx, 0, none⟩ (.slice wa wn wc)).setCell ⟨bx, 1, none⟩ (.slice pa4 pn4 pc4) = v := ⟨_, rfl⟩
                rw [hv] at R5 ⊢
                obtain ⟨l', hl'⟩ : ∃ l', didL ws l a d = l' := ⟨_, rfl⟩
                rw [hl'] at R5
                clear hv hl'
                obtain ⟨R6, X6, _⟩ := R5.tx
                obtain ⟨pv6, hb6, hrt6⟩ := R5.box
                obtain ⟨pa6, pn6, pc6, hpv6⟩ := pv_form hrt6.puts
                subst hpv6
                have hll6 := hll _ _ _ _ _ _ _ X6.tx
                have hgw6 := grown_trans hg1 R5.since
                have hcell : ∀ {wr : World}, v.grownBy wr none → wr.cell? ⟨bx, 0, none⟩ = some (.slice wa wn wc) ∧ wr.cell? ⟨bx, 1, none⟩ = some (.slice pa6 pn6 pc6) ∧ wr.cell? ⟨b, off + k * 3 + 1, none⟩ = some (.int .i64 d) := fun {wr} hg => by
                  obtain ⟨h1, h2, _, _⟩ := tx_cells ((hg.block _ (lt_of_block hb6) (by simp)).trans hb6)
                  exact ⟨h1, h2, (HCL.out wr (grown_trans hgw6 hg)).2.1⟩
                have hsS := fun (w' : World) (hg : v.grownBy w' none) => cstate_any (X6.later hg).tx d
                have hsH := fun (w' : World) (hg : v.grownBy w' none) => chead_any (X6.later hg).tx d
                have hsG : ∀ (w' : World) (hg : v.grownBy w' none), Calls Try.prog 15 #[.agg #[.slice wa wn wc, .slice pa6 pn6 pc6], .int .i64 d, .int .u64 0] w' _ := fun w' hg => rcget_any (hrt6.later hg) hwl hll6 d 0
                have hsJ : ∀ (w' : World) (hg : v.grownBy w' none), Calls Try.prog 15 #[.agg #[.slice wa wn wc, .slice pa6 pn6 pc6], .int .i64 d, .int .u64 8] w' _ := fun w' hg => rcget_any (hrt6.later hg) hwl hll6 d 8
                obtain ⟨x, hx⟩ : ∃ x, cGet ws l' d 0 = x := ⟨_, rfl⟩
                obtain ⟨y, hy⟩ : ∃ y, cGet ws l' d 8 = y := ⟨_, rfl⟩
                rw [hx] at hsS hsG
                rw [hy] at hsH hsJ
                have hxx : ((x : Int) != (x : Int)) = false := by simp
                have hyy : ((y : Int) != (y : Int)) = false := by simp
                clear hx hy hrt6 X6 hll6
                have R7 := Lib.hid R5
                clear R5
                obtain ⟨c0, c1, c3⟩ := hcell (grown_drew (grown_refl v none))
                have HG : v.grownBy v.drew none := grown_drew (grown_refl _ _)
                go_region_held3 (fun w' => w'.cell? ⟨bx, 0, none⟩ = some (.slice wa wn wc) ∧ w'.cell? ⟨bx, 1, none⟩ = some (.slice pa6 pn6 pc6) ∧ w'.cell? ⟨b, off + k * 3 + 1, none⟩ = some (.int .i64 d)) (go_keep)
                  (first | (go_at_call 14; ((with_reducible refine (hsS _ HG).mono ?_); rintro e w9 ⟨rfl, hg9⟩; replace HG := grown_trans HG hg9; obtain ⟨m0, m1, m2⟩ := hcell HG)) | (go_at_call 16; ((with_reducible refine (hsH _ HG).mono ?_); rintro e w9 ⟨rfl, hg9⟩; replace HG := grown_trans HG hg9; obtain ⟨m0, m1, m2⟩ := hcell HG)) | (go_at_call 15; ((with_reducible refine (hsG _ HG).mono ?_); rintro e w9 ⟨rfl, hg9⟩; replace HG := grown_trans HG hg9; obtain ⟨m0, m1, m2⟩ := hcell HG)) | (go_at_call 15; ((with_reducible refine (hsJ _ HG).mono ?_); rintro e w9 ⟨rfl, hg9⟩; replace HG := grown_trans HG hg9; obtain ⟨m0, m1, m2⟩ := hcell HG)))
                go_wp2
                exact ⟨⟨k + 1, by omega, by go_num, l', R7.out.later HG⟩, by simp [intOf]; omega⟩
      · obtain rfl : k = n := by omega
        have hgr := R.since
        obtain ⟨R6, X6, _⟩ := R.tx
        obtain ⟨pv6, hb6, hrt6⟩ := R.box
        obtain ⟨pa6, pn6, pc6, hpv6⟩ := pv_form hrt6.puts
        subst hpv6
        have hll6 := hll _ _ _ _ _ _ _ X6.tx
        have hcell : ∀ {w' : World}, wr.grownBy w' none → w'.cell? ⟨bx, 0, none⟩ = some (.slice wa wn wc) ∧ w'.cell? ⟨bx, 1, none⟩ = some (.slice pa6 pn6 pc6) := fun {w'} hg => by
          obtain ⟨h1, h2, _, _⟩ := tx_cells ((hg.block _ (lt_of_block hb6) (by simp)).trans hb6)
          exact ⟨h1, h2⟩
        have hsP := fun (w' : World) (hg : wr.grownBy w' none) => txputs_any (X6.later hg).tx
        have hsA := fun (w' : World) (hg : wr.grownBy w' none) => call_any (X6.later hg).tx s
        have hsB := fun (w' : World) (hg : wr.grownBy w' none) => rcall_any (hrt6.later hg) hwl hll6 s
        have hput := fun (w' : World) (hg : wr.grownBy w' none) => (hrt6.later hg).puts
        have hol := ofState_len (fun x => cGet ws l x 0) s
        obtain ⟨L, hL⟩ : ∃ L, ofState (fun x => cGet ws l x 0) s = L := ⟨_, rfl⟩
        rw [hL] at hsA hsB hol
        clear hL X6 hrt6 R hd
        go_wp2
        obtain ⟨c0, c1⟩ := hcell (grown_drew (grown_refl wr none))
        have HG : wr.grownBy wr.drew none := grown_drew (grown_refl _ _)
        go_region_held3 (fun w' => w'.cell? ⟨bx, 0, none⟩ = some (.slice wa wn wc) ∧ w'.cell? ⟨bx, 1, none⟩ = some (.slice pa6 pn6 pc6)) (go_keep)
          (first | (go_at_call 18; ((with_reducible refine (hsP _ HG).mono ?_); rintro e w9 ⟨v9, rfl, ho9, hg9⟩; replace HG := grown_trans HG hg9; obtain ⟨m0, m1⟩ := hcell HG)) | (go_at_call 17; ((with_reducible refine (rsame_any ho9 (hput _ HG) hll6).mono ?_); rintro e w10 ⟨rfl, hg10⟩; replace HG := grown_trans HG hg10; obtain ⟨m0, m1⟩ := hcell HG)) | (go_at_call 20; ((with_reducible refine (hsA _ HG).mono ?_); rintro e w11 ⟨v11, rfl, ho11, hg11⟩; replace HG := grown_trans HG hg11; obtain ⟨m0, m1⟩ := hcell HG)) | (go_at_call 21; ((with_reducible refine (hsB _ HG).mono ?_); rintro e w12 ⟨v12, rfl, ho12, hg12⟩; replace HG := grown_trans HG hg12; replace ho11 := ho11.later hg12; obtain ⟨m0, m1⟩ := hcell HG)) | (go_at_call 19; ((with_reducible refine (ints_same ho11 ho12 (by omega)).mono ?_); rintro e w13 ⟨rfl, hg13⟩; replace HG := grown_trans HG hg13; obtain ⟨m0, m1⟩ := hcell HG)))
        go_wp2
        go_ret
        exact ⟨ret_bool' rfl, grown_trans hg1 (grown_trans hgr HG)⟩
theorem walk {la : Option Addr} {m k0 : Nat} {X V : Nat → Nat} (hm : m ≤ maxLen) {w : World} (hp : PutsAt w la m X V) {la2 : Option Addr} {n c2 : Nat} {A C : Nat → Int} {O : Nat → Nat} (hn : n ≤ maxLen) (hd : DeedsAt w la2 n A C O) (a : Int) (wa : (Lit.int .u64 a).wf = true) :
    Calls Try.prog 3 #[.slice la m k0, .slice la2 n c2, .int .u64 a] w fun e w' => e = .returned (.bool true) ∧ Below w.heap.size w w' := by
  have b0 := bounds_u64 wa
  obtain ⟨s, rfl⟩ := Int.eq_ofNat_of_zero_le b0.1
  exact (core hm hp hn hd s).mono fun e w' ⟨h1, h2⟩ => ⟨h1, grown_below h2⟩

theorem laidOut : laidOutB Try.prog = true := by kernel_rfl
/-! ### The row's step: the guide's frame -/
theorem own : ownKnob Try.prog.godebug = none := by kernel_rfl
set_option maxRecDepth 100000 in
theorem lifted (os : Os) (started : os.Started) (H : Type) (enc : TypeId × Value → H) :
    ReturnsInHanded {} Try.checked os 3 .any (Rows.clientPlaysSpec.pre6 enc Try.prog Try.f3 Rows.clientPlaysRow.domain false) (Rows.clientPlaysSpec.post enc Try.prog Try.f3 false true false false) := by
  refine returnsInHanded_of_change (C := Try.checked) own started (by kernel_rfl) Try.func3
    (ChangeSpec.witness6 (enc := enc) (C := Try.checked) false ⟨#[], #[.slice none 0 0, .slice none 0 0, .int .u64 0], []⟩ 8 (by kernel_rfl) (by kernel_rfl) (by kernel_rfl) (by kernel_rfl)) ?_
  intro W base args ds gs before hval0 hW hcnd _
  have hval : ∀ (j : Nat) t v, Try.f3.params[j]? = some t → args[j]? = some v → Value.okWide Try.prog W .any base t v := hval0
  have hW' := hW
  obtain ⟨p, q, hA0, hV, rfl, hfz, hnd⟩ := hW
  have hA : DataW.TrodAll enc Try.prog W 0 (fun _ => true) true Try.f3.params.toList args.toList ds p := hA0
  rw [Try.params3] at hA hval
  obtain ⟨v0, vs0, d0, ds0, p0, q0, hargs, rfl, rfl, h0, r0⟩ := trodAll_cons hA
  obtain ⟨v1, vs1, d1, ds1, p1, q1, rfl, rfl, rfl, h1, r1⟩ := trodAll_cons r0
  obtain ⟨v2, vs2, d2, ds2, p2, q2, rfl, rfl, rfl, h2, r2⟩ := trodAll_cons r1
  obtain ⟨rfl, rfl, rfl⟩ := trodAll_nil r2
  obtain rfl : args = #[v0, v1, v2] := by cases args; simp_all
  obtain ⟨rfl, rfl⟩ := trodVars_none hV
  have lt0 : ∀ x ∈ p0, x.block < W.heap.size := by obtain ⟨m, hm⟩ := h0; exact DataW.trod_lt m _ _ _ hm
  obtain ⟨la0, n0, c0, X0, V0, rfl, hn0, hp0⟩ := open_puts (hval 0 22 v0 rfl rfl) h0
  have lt1 : ∀ x ∈ p1, x.block < W.heap.size := by obtain ⟨m, hm⟩ := h1; exact DataW.trod_lt m _ _ _ hm
  obtain ⟨la1, n1, c1, A1, B1, C1, rfl, hn1, hp1⟩ := open_deeds (hval 1 23 v1 rfl rfl) h1
  obtain ⟨a2, rfl, rfl, rfl, w2⟩ := open_int Try.underlying24 (hval 2 24 v2 rfl rfl) h2
  clear hA0 hval0
  refine (walk hn0 hp0 hn1 hp1 a2 w2).mono fun e W' ⟨he, bel⟩ => ?_
  subst he
  exact ⟨_, rfl, _, _, _, [], _, [], hW', trodAll_mk1 (shut_bool Try.underlying4 _), (trodAll_cons_mk (Below.trod laidOut (by kernel_rfl) (of_decide_eq_true (by kernel_rfl)) h0 bel lt0) (trodAll_cons_mk (Below.trod laidOut (by kernel_rfl) (of_decide_eq_true (by kernel_rfl)) h1 bel lt1) (trodAll_cons_mk (shut_int Try.underlying24 w2) trodAll_mk0))), rfl, bel.frame _, fun h => by cases h⟩

theorem over : Rows.clientPlaysRow.holds Try.pinned (OpenSpec.ofChange Rows.clientPlaysSpec) :=
  OpenClaim.holds_of_wide 3 Try.f3 rfl rfl rfl rfl rfl rfl rfl ⟨rfl, rfl, rfl, rfl, rfl⟩ rfl rfl rfl rfl rfl (by kernel_rfl) Try.func3 (by kernel_rfl)
    (of_decide_eq_true (by kernel_rfl)) (by unfold Func.isWrapper; first | (rw [if_pos (by decide +kernel)]; kernel_rfl) | (rw [if_neg (by decide +kernel)]; exact ⟨rfl, rfl⟩))
    (fun os started H enc _ => lifted os started H enc)

theorem proved : Rows.ClientPlaysSaid :=
  over
#print axioms proved


end Go.Proofs.Ytndoedcaoklfgaa.clientPlays
