/-
  The plain answer of layer 9: Check.
  Conditions: the words, and the pairs, are rows of the call's own, or nil; the numbers lie in memory; they are at most a million.
-/
import Derived.Test.YtkpopaadkfgjaaaLedB
import Derived.Test.YtkpopaadkfgjaaaLTx
import Derived.Deep.RegionHeld3
namespace Go.Proofs.Ytkpopaadkfgjaaa
open Go.RowKit
set_option linter.unusedVariables false
set_option linter.unusedSimpArgs false
set_option maxRecDepth 100000

theorem ckL_iff (f : Nat → Nat) (hd : Nat) (l : List Nat) : ckL f hd l ↔ hd = l.headD 0 ∧ ∀ i, i < l.length → ckAt f l i := by
  unfold ckL
  rw [strungW_at]
  exact Iff.rfl
theorem headD_get (l : List Nat) : l.headD 0 = l.getD 0 0 := by cases l <;> rfl
section
variable {w : World} {base : Nat} {wv pv : Value} {ws : List Nat} {l : List (Nat × Nat)}
set_option maxHeartbeats 16000000 in
theorem rcheck9_any (h : RTx w base wv pv ws l) (hm : ws.length ≤ 131072) (hl : l.length ≤ 1000000) {la : Option Addr} {n c : Nat} {xs : List Nat} (hw : WordsAt w la xs) (hn : xs.length = n) (hln : n ≤ 1000000) (hx64 : ∀ i, xs.getD i 0 < 18446744073709551616) (d : Int) :
    Calls Try.prog 11 #[.agg #[wv, pv], .int .i64 d, .slice la n c] w fun e w' => e = .returned (.bool (decide (ckL (txSee ws l) (cGet ws l d 8) xs))) ∧ w.grownBy w' none := by
  have hg0 : w.grownBy (w.alloc (.cells #[wv, pv] 27)) none := World.grownBy_alloc _ _ _
  have hget : Calls Try.prog 29 #[.agg #[wv, pv], .int .i64 d, .int .u64 8] (w.alloc (.cells #[wv, pv] 27)) _ := rcget_any (h.later hg0) hm hl d 8
  have hld := fun (w1 : World) (hg : w.grownBy w1 none) (q : Nat) (hq : q < 18446744073709551616) => rtxload_any (h.later hg) hm hl q hq
  obtain ⟨f, hf⟩ : ∃ f, txSee ws l = f := ⟨_, rfl⟩
  obtain ⟨x, hx⟩ : ∃ x, cGet ws l d 8 = x := ⟨_, rfl⟩
  rw [hx] at hget
  rw [hf] at hld
  rw [hf, hx]
  obtain ⟨wa, wn, wc, hwv⟩ := wv_form h.words
  obtain ⟨pa, pn, pc, hpv⟩ := pv_form h.puts
  subst hwv hpv
  clear h hx hf
  obtain ⟨W1, hW1⟩ : ∃ W1, w.alloc (.cells #[.slice wa wn wc, .slice pa pn pc] 27) = W1 := ⟨_, rfl⟩
  have hbx : ∀ w', W1.grownBy w' none → w'.heap[w.heap.size]? = some (.cells #[.slice wa wn wc, .slice pa pn pc] 27 (0, 0)) := fun w' hg => tx_one (hW1 ▸ hg)
  rw [hW1] at hget hg0
  obtain ⟨q0, q1, _, _⟩ := tx_cells (hbx W1 (grown_refl _ _))
  have hiff := ckL_iff f x xs
  rw [headD_get] at hiff
  have HN := Lib.hid hn
  have HW := Lib.hid (hw.later hg0)
  have HI := Lib.hid hiff
  have HLD := Lib.hid hld
  have H64 := Lib.hid hx64
  clear hw hiff hld hx64
  obtain ⟨y, hy⟩ : ∃ y, xs.getD 0 0 = y := ⟨_, rfl⟩
  rw [hy] at HI
  by_cases h0 : 0 < n
  · have h0' : (0 : Int) < (n : Int) := by omega
    obtain ⟨b, off, rfl, hb, hcs⟩ := HW.out.cells (by rw [HN.out]; exact h0)
    have c0 := hcs 0 (by rw [HN.out]; exact h0)
    rw [hy, Nat.add_zero] at c0
    clear hcs hy
    by_cases hxy : x = y
    · subst hxy
      go_enter Try.func11, Try.ntmps11
      go_wp2_with (first | (go_at_call 29; go_must ((with_reducible refine hget.mono ?_); rintro e w1 ⟨rfl, hg1⟩; have hb1 := hbx w1 hg1; obtain ⟨q0, q1, _, _⟩ := tx_cells hb1)))
      go_loopw [8] (fun i wr => ∃ k : Nat, k ≤ n ∧ i = .int .i64 k ∧ W1.grownBy wr none ∧ ∀ j, j < k → ckAt f xs j) (fun i _ => n - (intOf i).toNat)
      case atStart => exact ⟨0, Nat.zero_le _, rfl, hg1, fun j hj => absurd hj (Nat.not_lt_zero _)⟩
      case round =>
        obtain ⟨k, hk, rfl, hgr, hall⟩ := hrel
        have HA := Lib.hid hall
        clear hall
        have hgw := grown_trans hg0 hgr
        obtain ⟨q0, q1, _, _⟩ := tx_cells (hbx wr hgr)
        by_cases hkn : k < n
        · have hkn' : (k : Int) < (n : Int) := by omega
          have hcs : ∀ w', W1.grownBy w' none → ∀ i, i < n → w'.cell? ⟨b, off + i, none⟩ = some (.int .u64 (xs.getD i 0 : Nat)) := fun w' hg i hi => by
            obtain ⟨b', off', e, _, h⟩ := (HW.out.later hg).cells (by rw [HN.out]; omega)
            injection e with e
            injection e with e1 e2
            subst e1
            subst e2
            exact h i (by rw [HN.out]; exact hi)
          obtain ⟨z, hz⟩ : ∃ z, xs.getD k 0 = z := ⟨_, rfl⟩
          have hz64 := H64.out k
          have HCS := Lib.hid hcs
          have u0 := hcs wr hgr k hkn
          clear hcs
          rw [hz] at u0 hz64
          obtain ⟨z16, hz16⟩ : ∃ q, (z + 16) % 18446744073709551616 = q := ⟨_, rfl⟩
          obtain ⟨z24, hz24⟩ : ∃ q, (z + 24) % 18446744073709551616 = q := ⟨_, rfl⟩
          have e16 : IntKind.u64.wrap ((z : Int) + 16) = (z16 : Nat) := by rw [IntKind.wrap_u64]; omega
          have e24 : IntKind.u64.wrap ((z : Int) + 24) = (z24 : Nat) := by rw [IntKind.wrap_u64]; omega
          have hl16 := fun (w' : World) (hg : wr.grownBy w' none) => HLD.out w' (grown_trans hgw hg) z16 (by omega)
          have hl24 := fun (w' : World) (hg : wr.grownBy w' none) => HLD.out w' (grown_trans hgw hg) z24 (by omega)
          obtain ⟨r, hr⟩ : ∃ r, f z16 = r := ⟨_, rfl⟩
          obtain ⟨t, ht⟩ : ∃ t, f z24 = t := ⟨_, rfl⟩
          rw [hr] at hl16
          rw [ht] at hl24
          obtain ⟨nx, hnx⟩ : ∃ nx, xs.getD (k + 1) 0 = nx := ⟨_, rfl⟩
          obtain ⟨ah, hah⟩ : ∃ ah, (if k = 0 then 0 else xs.getD (k - 1) 0) = ah := ⟨_, rfl⟩
          have hck : ckAt f xs k ↔ r = nx ∧ t = ah := by
            unfold ckAt
            rw [hz, hz16, hz24, hr, ht, hnx, hah]
          have HCK := Lib.hid hck
          have HZ := Lib.hid hz
          clear hck hz16 hz24 hr ht hz hz64
          by_cases hk1 : k + 1 < n
          · have hk1' : (k : Int) + 1 < (n : Int) := by omega
            have u1 := HCS.out wr hgr (k + 1) hk1
            rw [hnx] at u1
            have u1' : wr.cell? ⟨b, off + k + 1, none⟩ = some (.int .u64 (nx : Nat)) := u1
            by_cases hk0 : k = 0
            · subst hk0
              simp only [Nat.add_zero] at u0
              have hah0 : ah = 0 := by rw [← hah, if_pos rfl]
              subst hah0
              have HG : wr.grownBy wr.drew none := grown_drew (grown_refl _ _)
              have HB : Hid (∀ wq, wr.grownBy wq none → (wq.cell? ⟨w.heap.size, 0, none⟩ = some (.slice wa wn wc) ∧ wq.cell? ⟨w.heap.size, 1, none⟩ = some (.slice pa pn pc)) ∧ wq.cell? ⟨b, off, none⟩ = some (.int .u64 (z : Nat))) := Lib.hid fun wq hg => by
                obtain ⟨p0, p1, _, _⟩ := tx_cells (hbx wq (grown_trans hgr hg))
                have u5 := HCS.out wq (grown_trans hgr hg) _ hkn
                rw [HZ.out] at u5
                exact ⟨⟨p0, p1⟩, u5⟩
              obtain ⟨⟨t0, t1⟩, t2⟩ := HB.out _ HG
              by_cases hrn : r = nx
              · subst hrn
                have e1 : ((r : Int) != (r : Int)) = false := by simp
                by_cases hta : t = 0
                · subst hta
                  go_wp2
                  go_region_held3 (fun wq => (wq.cell? ⟨w.heap.size, 0, none⟩ = some (.slice wa wn wc) ∧ wq.cell? ⟨w.heap.size, 1, none⟩ = some (.slice pa pn pc)) ∧ wq.cell? ⟨b, off, none⟩ = some (.int .u64 (z : Nat))) (go_keep)
                    (first | (go_at_call 30; ((with_reducible refine (hl16 _ HG).mono ?_); rintro e w9 ⟨rfl, hg9⟩; replace HG := grown_trans HG hg9; obtain ⟨⟨m0, m1⟩, m2⟩ := HB.out _ HG)) | (go_at_call 30; ((with_reducible refine (hl24 _ HG).mono ?_); rintro e w9 ⟨rfl, hg9⟩; replace HG := grown_trans HG hg9; obtain ⟨⟨m0, m1⟩, m2⟩ := HB.out _ HG)))
                  go_wp2
                  exact ⟨⟨0 + 1, by omega, by go_num, grown_trans hgr HG, fun j hj => by
                    rcases Nat.lt_succ_iff_lt_or_eq.1 hj with h9 | rfl
                    · exact HA.out j h9
                    · exact HCK.out.2 (by simp)⟩, by simp [intOf]; omega⟩
                · have hta' : ¬ (t : Int) = 0 := by omega
                  have e2 : ((t : Int) != 0) = true := by simp; omega
                  go_wp2
                  go_region_held3 (fun wq => (wq.cell? ⟨w.heap.size, 0, none⟩ = some (.slice wa wn wc) ∧ wq.cell? ⟨w.heap.size, 1, none⟩ = some (.slice pa pn pc)) ∧ wq.cell? ⟨b, off, none⟩ = some (.int .u64 (z : Nat))) (go_keep)
                    (first | (go_at_call 30; ((with_reducible refine (hl16 _ HG).mono ?_); rintro e w9 ⟨rfl, hg9⟩; replace HG := grown_trans HG hg9; obtain ⟨⟨m0, m1⟩, m2⟩ := HB.out _ HG)) | (go_at_call 30; ((with_reducible refine (hl24 _ HG).mono ?_); rintro e w9 ⟨rfl, hg9⟩; replace HG := grown_trans HG hg9; obtain ⟨⟨m0, m1⟩, m2⟩ := HB.out _ HG)))
                  go_wp2
                  go_ret
                  refine ⟨?_, grown_trans hgw HG⟩
                  rw [decide_eq_false (fun hck => hta (HCK.out.1 ((HI.out.1 hck).2 _ (by rw [HN.out]; exact hkn))).2)]
                  rfl
              · have hrn' : ¬ (r : Int) = (nx : Int) := by omega
                have e1 : ((r : Int) != (nx : Int)) = true := by simp; omega
                go_wp2
                refine wp_region_held_drew (S := (fun wq => (wq.cell? ⟨w.heap.size, 0, none⟩ = some (.slice wa wn wc) ∧ wq.cell? ⟨w.heap.size, 1, none⟩ = some (.slice pa pn pc)) ∧ wq.cell? ⟨b, off, none⟩ = some (.int .u64 (z : Nat)))) (by kernel_rfl) (HB.out _ HG) (fun hHeld => ?_)
                refine held_yes 0 45 (v := ?_) rfl rfl (by kernel_rfl) (by kernel_rfl) (by kernel_rfl) (fun _ _ _ h => h) (by kernel_rfl) ?hy0 hHeld ?hr0
                case hy0 => (intro w hSw; (try dsimp only at hSw); go_simp; try (with_reducible rfl))
                case hr0 =>
                simp only [Act.put, List.setIfInBounds_toArray, List.set_cons_zero, List.set_cons_succ]
                refine held_yes 1 46 (v := ?_) rfl rfl (by kernel_rfl) (by kernel_rfl) (by kernel_rfl) (fun _ _ _ h => h) (by kernel_rfl) ?hy1 hHeld ?hr1
                case hy1 => (intro w hSw; (try dsimp only at hSw); go_simp; try (with_reducible rfl))
                case hr1 =>
                simp only [Act.put, List.setIfInBounds_toArray, List.set_cons_zero, List.set_cons_succ]
                refine held_yes 2 47 (v := ?_) rfl rfl (by kernel_rfl) (by kernel_rfl) (by kernel_rfl) (fun _ _ _ h => h) (by kernel_rfl) ?hy2 hHeld ?hr2
                case hy2 => (intro w hSw; (try dsimp only at hSw); go_simp; try (with_reducible rfl))
                case hr2 =>
                simp only [Act.put, List.setIfInBounds_toArray, List.set_cons_zero, List.set_cons_succ]
                refine held_yes 3 48 (v := ?_) rfl rfl (by kernel_rfl) (by kernel_rfl) (by kernel_rfl) (fun _ _ _ h => h) (by kernel_rfl) ?hy3 hHeld ?hr3
                case hy3 => (intro w hSw; (try dsimp only at hSw); go_simp; try (with_reducible rfl))
                case hr3 =>
                simp only [Act.put, List.setIfInBounds_toArray, List.set_cons_zero, List.set_cons_succ]
                refine held_yes 4 49 (v := ?_) rfl rfl (by kernel_rfl) (by kernel_rfl) (by kernel_rfl) (fun _ _ _ h => h) (by kernel_rfl) ?hy4 hHeld ?hr4
                case hy4 => (intro w hSw; (try dsimp only at hSw); go_simp; try (with_reducible rfl))
                case hr4 =>
                simp only [Act.put, List.setIfInBounds_toArray, List.set_cons_zero, List.set_cons_succ]
                refine held_yes 5 50 (v := ?_) rfl rfl (by kernel_rfl) (by kernel_rfl) (by kernel_rfl) (fun _ _ _ h => h) (by kernel_rfl) ?hy5 hHeld ?hr5
                case hy5 => (intro w hSw; (try dsimp only at hSw); go_simp; try (with_reducible rfl))
                case hr5 =>
                simp only [Act.put, List.setIfInBounds_toArray, List.set_cons_zero, List.set_cons_succ]
                refine held_yes 7 52 (v := ?_) rfl rfl (by kernel_rfl) (by kernel_rfl) (by kernel_rfl) (fun _ _ _ h => h) (by kernel_rfl) ?hy7 hHeld ?hr7
                case hy7 => (intro w hSw; (try dsimp only at hSw); go_simp; try (with_reducible rfl))
                case hr7 =>
                simp only [Act.put, List.setIfInBounds_toArray, List.set_cons_zero, List.set_cons_succ]
                refine wpAnyH_ready (rs := [6]) (by kernel_rfl) (by simp) (AllReadyH.cons rfl (fun K hK => ?_) AllReadyH.nil)
                clear hHeld
                go_simp
                (go_at_call 30; ((with_reducible refine (hl16 _ HG).mono ?_); rintro e w9 ⟨rfl, hg9⟩; replace HG := grown_trans HG hg9))
                refine hK.out _ _ (HB.out _ HG) (fun hHeld => ?_)
                clear hK K
                try simp only [Act.put, List.setIfInBounds_toArray, List.set_cons_zero, List.set_cons_succ]
                refine held_yes 8 53 (v := ?_) rfl rfl (by kernel_rfl) (by kernel_rfl) (by kernel_rfl) (fun _ _ _ h => h) (by kernel_rfl) ?hy8 hHeld ?hr8
                case hy8 => (intro w hSw; (try dsimp only at hSw); go_simp; try (with_reducible rfl))
                case hr8 =>
                simp only [Act.put, List.setIfInBounds_toArray, List.set_cons_zero, List.set_cons_succ]
                refine held_yes 9 54 (v := ?_) rfl rfl (by kernel_rfl) (by kernel_rfl) (by kernel_rfl) (fun _ _ _ h => h) (by kernel_rfl) ?hy9 hHeld ?hr9
                case hy9 => (intro w hSw; (try dsimp only at hSw); go_simp; try (with_reducible rfl))
                case hr9 =>
                simp only [Act.put, List.setIfInBounds_toArray, List.set_cons_zero, List.set_cons_succ]
                refine held_skip 10 55 rfl rfl (by kernel_rfl) (by kernel_rfl) (by kernel_rfl) (fun _ _ _ h => h) (by kernel_rfl) hHeld ?_
                simp only [Act.put, List.setIfInBounds_toArray, List.set_cons_zero, List.set_cons_succ]
                refine held_skip 11 56 rfl rfl (by kernel_rfl) (by kernel_rfl) (by kernel_rfl) (fun _ _ _ h => h) (by kernel_rfl) hHeld ?_
                simp only [Act.put, List.setIfInBounds_toArray, List.set_cons_zero, List.set_cons_succ]
                refine held_skip 12 57 rfl rfl (by kernel_rfl) (by kernel_rfl) (by kernel_rfl) (fun _ _ _ h => h) (by kernel_rfl) hHeld ?_
                simp only [Act.put, List.setIfInBounds_toArray, List.set_cons_zero, List.set_cons_succ]
                refine held_skip 13 58 rfl rfl (by kernel_rfl) (by kernel_rfl) (by kernel_rfl) (fun _ _ _ h => h) (by kernel_rfl) hHeld ?_
                simp only [Act.put, List.setIfInBounds_toArray, List.set_cons_zero, List.set_cons_succ]
                refine held_skip 14 59 rfl rfl (by kernel_rfl) (by kernel_rfl) (by kernel_rfl) (fun _ _ _ h => h) (by kernel_rfl) hHeld ?_
                simp only [Act.put, List.setIfInBounds_toArray, List.set_cons_zero, List.set_cons_succ]
                refine held_skip 15 60 rfl rfl (by kernel_rfl) (by kernel_rfl) (by kernel_rfl) (fun _ _ _ h => h) (by kernel_rfl) hHeld ?_
                simp only [Act.put, List.setIfInBounds_toArray, List.set_cons_zero, List.set_cons_succ]
                refine held_skip 16 61 rfl rfl (by kernel_rfl) (by kernel_rfl) (by kernel_rfl) (fun _ _ _ h => h) (by kernel_rfl) hHeld ?_
                simp only [Act.put, List.setIfInBounds_toArray, List.set_cons_zero, List.set_cons_succ]
                refine held_skip 17 62 rfl rfl (by kernel_rfl) (by kernel_rfl) (by kernel_rfl) (fun _ _ _ h => h) (by kernel_rfl) hHeld ?_
                simp only [Act.put, List.setIfInBounds_toArray, List.set_cons_zero, List.set_cons_succ]
                refine held_skip 18 63 rfl rfl (by kernel_rfl) (by kernel_rfl) (by kernel_rfl) (fun _ _ _ h => h) (by kernel_rfl) hHeld ?_
                simp only [Act.put, List.setIfInBounds_toArray, List.set_cons_zero, List.set_cons_succ]
                refine held_yes 19 64 (v := ?_) rfl rfl (by kernel_rfl) (by kernel_rfl) (by kernel_rfl) (fun _ _ _ h => h) (by kernel_rfl) ?hy19 hHeld ?hr19
                case hy19 => (intro w hSw; (try dsimp only at hSw); go_simp; try (with_reducible rfl))
                case hr19 =>
                simp only [Act.put, List.setIfInBounds_toArray, List.set_cons_zero, List.set_cons_succ]
                refine wpAnyH_done (by kernel_rfl) ?_ _
                obtain ⟨⟨m0, m1⟩, m2⟩ := HB.out _ HG
                go_wp2
                go_ret
                refine ⟨?_, grown_trans hgw HG⟩
                rw [decide_eq_false (fun hck => hrn (HCK.out.1 ((HI.out.1 hck).2 _ (by rw [HN.out]; exact hkn))).1)]
                rfl
            · have hk0' : 0 < (k : Int) := by omega
              rw [if_neg hk0] at hah
              obtain ⟨k1, hkk⟩ : ∃ k1, k - 1 = k1 := ⟨_, rfl⟩
              have u2 := HCS.out wr hgr k1 (by omega)
              rw [hkk] at hah
              rw [hah] at u2
              have ek1 : (k : Int) - 1 = (k1 : Nat) := by omega
              clear hah
              have HG : wr.grownBy wr.drew none := grown_drew (grown_refl _ _)
              have HB : Hid (∀ wq, wr.grownBy wq none → (wq.cell? ⟨w.heap.size, 0, none⟩ = some (.slice wa wn wc) ∧ wq.cell? ⟨w.heap.size, 1, none⟩ = some (.slice pa pn pc)) ∧ wq.cell? ⟨b, off + k, none⟩ = some (.int .u64 (z : Nat))) := Lib.hid fun wq hg => by
                obtain ⟨p0, p1, _, _⟩ := tx_cells (hbx wq (grown_trans hgr hg))
                have u5 := HCS.out wq (grown_trans hgr hg) _ hkn
                rw [HZ.out] at u5
                exact ⟨⟨p0, p1⟩, u5⟩
              obtain ⟨⟨t0, t1⟩, t2⟩ := HB.out _ HG
              by_cases hrn : r = nx
              · subst hrn
                have e1 : ((r : Int) != (r : Int)) = false := by simp
                by_cases hta : t = ah
                · subst hta
                  have e2 : ((t : Int) != (t : Int)) = false := by simp
                  go_wp2
                  go_region_held3 (fun wq => (wq.cell? ⟨w.heap.size, 0, none⟩ = some (.slice wa wn wc) ∧ wq.cell? ⟨w.heap.size, 1, none⟩ = some (.slice pa pn pc)) ∧ wq.cell? ⟨b, off + k, none⟩ = some (.int .u64 (z : Nat))) (go_keep)
                    (first | (go_at_call 30; ((with_reducible refine (hl16 _ HG).mono ?_); rintro e w9 ⟨rfl, hg9⟩; replace HG := grown_trans HG hg9; obtain ⟨⟨m0, m1⟩, m2⟩ := HB.out _ HG)) | (go_at_call 30; ((with_reducible refine (hl24 _ HG).mono ?_); rintro e w9 ⟨rfl, hg9⟩; replace HG := grown_trans HG hg9; obtain ⟨⟨m0, m1⟩, m2⟩ := HB.out _ HG)))
                  go_wp2
                  exact ⟨⟨k + 1, by omega, by go_num, grown_trans hgr HG, fun j hj => by
                    rcases Nat.lt_succ_iff_lt_or_eq.1 hj with h9 | rfl
                    · exact HA.out j h9
                    · exact HCK.out.2 (by simp)⟩, by simp [intOf]; omega⟩
                · have hta' : ¬ (t : Int) = (ah : Int) := by omega
                  have e2 : ((t : Int) != (ah : Int)) = true := by simp; omega
                  go_wp2
                  go_region_held3 (fun wq => (wq.cell? ⟨w.heap.size, 0, none⟩ = some (.slice wa wn wc) ∧ wq.cell? ⟨w.heap.size, 1, none⟩ = some (.slice pa pn pc)) ∧ wq.cell? ⟨b, off + k, none⟩ = some (.int .u64 (z : Nat))) (go_keep)
                    (first | (go_at_call 30; ((with_reducible refine (hl16 _ HG).mono ?_); rintro e w9 ⟨rfl, hg9⟩; replace HG := grown_trans HG hg9; obtain ⟨⟨m0, m1⟩, m2⟩ := HB.out _ HG)) | (go_at_call 30; ((with_reducible refine (hl24 _ HG).mono ?_); rintro e w9 ⟨rfl, hg9⟩; replace HG := grown_trans HG hg9; obtain ⟨⟨m0, m1⟩, m2⟩ := HB.out _ HG)))
                  go_wp2
                  go_ret
                  refine ⟨?_, grown_trans hgw HG⟩
                  rw [decide_eq_false (fun hck => hta (HCK.out.1 ((HI.out.1 hck).2 _ (by rw [HN.out]; exact hkn))).2)]
                  rfl
              · have hrn' : ¬ (r : Int) = (nx : Int) := by omega
                have e1 : ((r : Int) != (nx : Int)) = true := by simp; omega
                go_wp2
                refine wp_region_held_drew (S := (fun wq => (wq.cell? ⟨w.heap.size, 0, none⟩ = some (.slice wa wn wc) ∧ wq.cell? ⟨w.heap.size, 1, none⟩ = some (.slice pa pn pc)) ∧ wq.cell? ⟨b, off + k, none⟩ = some (.int .u64 (z : Nat)))) (by kernel_rfl) (HB.out _ HG) (fun hHeld => ?_)
                refine held_yes 0 45 (v := ?_) rfl rfl (by kernel_rfl) (by kernel_rfl) (by kernel_rfl) (fun _ _ _ h => h) (by kernel_rfl) ?hy0 hHeld ?hr0
                case hy0 => (intro w hSw; (try dsimp only at hSw); go_simp; try (with_reducible rfl))
                case hr0 =>
                simp only [Act.put, List.setIfInBounds_toArray, List.set_cons_zero, List.set_cons_succ]
                refine held_yes 1 46 (v := ?_) rfl rfl (by kernel_rfl) (by kernel_rfl) (by kernel_rfl) (fun _ _ _ h => h) (by kernel_rfl) ?hy1 hHeld ?hr1
                case hy1 => (intro w hSw; (try dsimp only at hSw); go_simp; try (with_reducible rfl))
                case hr1 =>
                simp only [Act.put, List.setIfInBounds_toArray, List.set_cons_zero, List.set_cons_succ]
                refine held_yes 2 47 (v := ?_) rfl rfl (by kernel_rfl) (by kernel_rfl) (by kernel_rfl) (fun _ _ _ h => h) (by kernel_rfl) ?hy2 hHeld ?hr2
                case hy2 => (intro w hSw; (try dsimp only at hSw); go_simp; try (with_reducible rfl))
                case hr2 =>
                simp only [Act.put, List.setIfInBounds_toArray, List.set_cons_zero, List.set_cons_succ]
                refine held_yes 3 48 (v := ?_) rfl rfl (by kernel_rfl) (by kernel_rfl) (by kernel_rfl) (fun _ _ _ h => h) (by kernel_rfl) ?hy3 hHeld ?hr3
                case hy3 => (intro w hSw; (try dsimp only at hSw); go_simp; try (with_reducible rfl))
                case hr3 =>
                simp only [Act.put, List.setIfInBounds_toArray, List.set_cons_zero, List.set_cons_succ]
                refine held_yes 4 49 (v := ?_) rfl rfl (by kernel_rfl) (by kernel_rfl) (by kernel_rfl) (fun _ _ _ h => h) (by kernel_rfl) ?hy4 hHeld ?hr4
                case hy4 => (intro w hSw; (try dsimp only at hSw); go_simp; try (with_reducible rfl))
                case hr4 =>
                simp only [Act.put, List.setIfInBounds_toArray, List.set_cons_zero, List.set_cons_succ]
                refine held_yes 5 50 (v := ?_) rfl rfl (by kernel_rfl) (by kernel_rfl) (by kernel_rfl) (fun _ _ _ h => h) (by kernel_rfl) ?hy5 hHeld ?hr5
                case hy5 => (intro w hSw; (try dsimp only at hSw); go_simp; try (with_reducible rfl))
                case hr5 =>
                simp only [Act.put, List.setIfInBounds_toArray, List.set_cons_zero, List.set_cons_succ]
                refine held_yes 7 52 (v := ?_) rfl rfl (by kernel_rfl) (by kernel_rfl) (by kernel_rfl) (fun _ _ _ h => h) (by kernel_rfl) ?hy7 hHeld ?hr7
                case hy7 => (intro w hSw; (try dsimp only at hSw); go_simp; try (with_reducible rfl))
                case hr7 =>
                simp only [Act.put, List.setIfInBounds_toArray, List.set_cons_zero, List.set_cons_succ]
                refine wpAnyH_ready (rs := [6]) (by kernel_rfl) (by simp) (AllReadyH.cons rfl (fun K hK => ?_) AllReadyH.nil)
                clear hHeld
                go_simp
                (go_at_call 30; ((with_reducible refine (hl16 _ HG).mono ?_); rintro e w9 ⟨rfl, hg9⟩; replace HG := grown_trans HG hg9))
                refine hK.out _ _ (HB.out _ HG) (fun hHeld => ?_)
                clear hK K
                try simp only [Act.put, List.setIfInBounds_toArray, List.set_cons_zero, List.set_cons_succ]
                refine held_yes 8 53 (v := ?_) rfl rfl (by kernel_rfl) (by kernel_rfl) (by kernel_rfl) (fun _ _ _ h => h) (by kernel_rfl) ?hy8 hHeld ?hr8
                case hy8 => (intro w hSw; (try dsimp only at hSw); go_simp; try (with_reducible rfl))
                case hr8 =>
                simp only [Act.put, List.setIfInBounds_toArray, List.set_cons_zero, List.set_cons_succ]
                refine held_yes 9 54 (v := ?_) rfl rfl (by kernel_rfl) (by kernel_rfl) (by kernel_rfl) (fun _ _ _ h => h) (by kernel_rfl) ?hy9 hHeld ?hr9
                case hy9 => (intro w hSw; (try dsimp only at hSw); go_simp; try (with_reducible rfl))
                case hr9 =>
                simp only [Act.put, List.setIfInBounds_toArray, List.set_cons_zero, List.set_cons_succ]
                refine held_skip 10 55 rfl rfl (by kernel_rfl) (by kernel_rfl) (by kernel_rfl) (fun _ _ _ h => h) (by kernel_rfl) hHeld ?_
                simp only [Act.put, List.setIfInBounds_toArray, List.set_cons_zero, List.set_cons_succ]
                refine held_skip 11 56 rfl rfl (by kernel_rfl) (by kernel_rfl) (by kernel_rfl) (fun _ _ _ h => h) (by kernel_rfl) hHeld ?_
                simp only [Act.put, List.setIfInBounds_toArray, List.set_cons_zero, List.set_cons_succ]
                refine held_skip 12 57 rfl rfl (by kernel_rfl) (by kernel_rfl) (by kernel_rfl) (fun _ _ _ h => h) (by kernel_rfl) hHeld ?_
                simp only [Act.put, List.setIfInBounds_toArray, List.set_cons_zero, List.set_cons_succ]
                refine held_skip 13 58 rfl rfl (by kernel_rfl) (by kernel_rfl) (by kernel_rfl) (fun _ _ _ h => h) (by kernel_rfl) hHeld ?_
                simp only [Act.put, List.setIfInBounds_toArray, List.set_cons_zero, List.set_cons_succ]
                refine held_skip 14 59 rfl rfl (by kernel_rfl) (by kernel_rfl) (by kernel_rfl) (fun _ _ _ h => h) (by kernel_rfl) hHeld ?_
                simp only [Act.put, List.setIfInBounds_toArray, List.set_cons_zero, List.set_cons_succ]
                refine held_skip 15 60 rfl rfl (by kernel_rfl) (by kernel_rfl) (by kernel_rfl) (fun _ _ _ h => h) (by kernel_rfl) hHeld ?_
                simp only [Act.put, List.setIfInBounds_toArray, List.set_cons_zero, List.set_cons_succ]
                refine held_skip 16 61 rfl rfl (by kernel_rfl) (by kernel_rfl) (by kernel_rfl) (fun _ _ _ h => h) (by kernel_rfl) hHeld ?_
                simp only [Act.put, List.setIfInBounds_toArray, List.set_cons_zero, List.set_cons_succ]
                refine held_skip 17 62 rfl rfl (by kernel_rfl) (by kernel_rfl) (by kernel_rfl) (fun _ _ _ h => h) (by kernel_rfl) hHeld ?_
                simp only [Act.put, List.setIfInBounds_toArray, List.set_cons_zero, List.set_cons_succ]
                refine held_skip 18 63 rfl rfl (by kernel_rfl) (by kernel_rfl) (by kernel_rfl) (fun _ _ _ h => h) (by kernel_rfl) hHeld ?_
                simp only [Act.put, List.setIfInBounds_toArray, List.set_cons_zero, List.set_cons_succ]
                refine held_yes 19 64 (v := ?_) rfl rfl (by kernel_rfl) (by kernel_rfl) (by kernel_rfl) (fun _ _ _ h => h) (by kernel_rfl) ?hy19 hHeld ?hr19
                case hy19 => (intro w hSw; (try dsimp only at hSw); go_simp; try (with_reducible rfl))
                case hr19 =>
                simp only [Act.put, List.setIfInBounds_toArray, List.set_cons_zero, List.set_cons_succ]
                refine wpAnyH_done (by kernel_rfl) ?_ _
                obtain ⟨⟨m0, m1⟩, m2⟩ := HB.out _ HG
                go_wp2
                go_ret
                refine ⟨?_, grown_trans hgw HG⟩
                rw [decide_eq_false (fun hck => hrn (HCK.out.1 ((HI.out.1 hck).2 _ (by rw [HN.out]; exact hkn))).1)]
                rfl
          · have hk1' : ¬ (k : Int) + 1 < (n : Int) := by omega
            have hnx0 : nx = 0 := by rw [← hnx, List.getD_eq_getElem?_getD, List.getElem?_eq_none (by rw [HN.out]; omega)]; rfl
            subst hnx0
            by_cases hk0 : k = 0
            · subst hk0
              simp only [Nat.add_zero] at u0
              have hah0 : ah = 0 := by rw [← hah, if_pos rfl]
              subst hah0
              have HG : wr.grownBy wr.drew none := grown_drew (grown_refl _ _)
              have HB : Hid (∀ wq, wr.grownBy wq none → (wq.cell? ⟨w.heap.size, 0, none⟩ = some (.slice wa wn wc) ∧ wq.cell? ⟨w.heap.size, 1, none⟩ = some (.slice pa pn pc)) ∧ wq.cell? ⟨b, off, none⟩ = some (.int .u64 (z : Nat))) := Lib.hid fun wq hg => by
                obtain ⟨p0, p1, _, _⟩ := tx_cells (hbx wq (grown_trans hgr hg))
                have u5 := HCS.out wq (grown_trans hgr hg) _ hkn
                rw [HZ.out] at u5
                exact ⟨⟨p0, p1⟩, u5⟩
              obtain ⟨⟨t0, t1⟩, t2⟩ := HB.out _ HG
              by_cases hrn : r = 0
              · subst hrn
                have e1 : (0 != 0) = false := by simp
                by_cases hta : t = 0
                · subst hta
                  go_wp2
                  go_region_held3 (fun wq => (wq.cell? ⟨w.heap.size, 0, none⟩ = some (.slice wa wn wc) ∧ wq.cell? ⟨w.heap.size, 1, none⟩ = some (.slice pa pn pc)) ∧ wq.cell? ⟨b, off, none⟩ = some (.int .u64 (z : Nat))) (go_keep)
                    (first | (go_at_call 30; ((with_reducible refine (hl16 _ HG).mono ?_); rintro e w9 ⟨rfl, hg9⟩; replace HG := grown_trans HG hg9; obtain ⟨⟨m0, m1⟩, m2⟩ := HB.out _ HG)) | (go_at_call 30; ((with_reducible refine (hl24 _ HG).mono ?_); rintro e w9 ⟨rfl, hg9⟩; replace HG := grown_trans HG hg9; obtain ⟨⟨m0, m1⟩, m2⟩ := HB.out _ HG)))
                  go_wp2
                  exact ⟨⟨0 + 1, by omega, by go_num, grown_trans hgr HG, fun j hj => by
                    rcases Nat.lt_succ_iff_lt_or_eq.1 hj with h9 | rfl
                    · exact HA.out j h9
                    · exact HCK.out.2 (by simp)⟩, by simp [intOf]; omega⟩
                · have hta' : ¬ (t : Int) = 0 := by omega
                  have e2 : ((t : Int) != 0) = true := by simp; omega
                  go_wp2
                  go_region_held3 (fun wq => (wq.cell? ⟨w.heap.size, 0, none⟩ = some (.slice wa wn wc) ∧ wq.cell? ⟨w.heap.size, 1, none⟩ = some (.slice pa pn pc)) ∧ wq.cell? ⟨b, off, none⟩ = some (.int .u64 (z : Nat))) (go_keep)
                    (first | (go_at_call 30; ((with_reducible refine (hl16 _ HG).mono ?_); rintro e w9 ⟨rfl, hg9⟩; replace HG := grown_trans HG hg9; obtain ⟨⟨m0, m1⟩, m2⟩ := HB.out _ HG)) | (go_at_call 30; ((with_reducible refine (hl24 _ HG).mono ?_); rintro e w9 ⟨rfl, hg9⟩; replace HG := grown_trans HG hg9; obtain ⟨⟨m0, m1⟩, m2⟩ := HB.out _ HG)))
                  go_wp2
                  go_ret
                  refine ⟨?_, grown_trans hgw HG⟩
                  rw [decide_eq_false (fun hck => hta (HCK.out.1 ((HI.out.1 hck).2 _ (by rw [HN.out]; exact hkn))).2)]
                  rfl
              · have hrn' : ¬ (r : Int) = 0 := by omega
                have e1 : ((r : Int) != 0) = true := by simp; omega
                go_wp2
                refine wp_region_held_drew (S := (fun wq => (wq.cell? ⟨w.heap.size, 0, none⟩ = some (.slice wa wn wc) ∧ wq.cell? ⟨w.heap.size, 1, none⟩ = some (.slice pa pn pc)) ∧ wq.cell? ⟨b, off, none⟩ = some (.int .u64 (z : Nat)))) (by kernel_rfl) (HB.out _ HG) (fun hHeld => ?_)
                refine held_yes 0 45 (v := ?_) rfl rfl (by kernel_rfl) (by kernel_rfl) (by kernel_rfl) (fun _ _ _ h => h) (by kernel_rfl) ?hy0 hHeld ?hr0
                case hy0 => (intro w hSw; (try dsimp only at hSw); go_simp; try (with_reducible rfl))
                case hr0 =>
                simp only [Act.put, List.setIfInBounds_toArray, List.set_cons_zero, List.set_cons_succ]
                refine held_yes 1 46 (v := ?_) rfl rfl (by kernel_rfl) (by kernel_rfl) (by kernel_rfl) (fun _ _ _ h => h) (by kernel_rfl) ?hy1 hHeld ?hr1
                case hy1 => (intro w hSw; (try dsimp only at hSw); go_simp; try (with_reducible rfl))
                case hr1 =>
                simp only [Act.put, List.setIfInBounds_toArray, List.set_cons_zero, List.set_cons_succ]
                refine held_yes 2 47 (v := ?_) rfl rfl (by kernel_rfl) (by kernel_rfl) (by kernel_rfl) (fun _ _ _ h => h) (by kernel_rfl) ?hy2 hHeld ?hr2
                case hy2 => (intro w hSw; (try dsimp only at hSw); go_simp; try (with_reducible rfl))
                case hr2 =>
                simp only [Act.put, List.setIfInBounds_toArray, List.set_cons_zero, List.set_cons_succ]
                refine held_yes 3 48 (v := ?_) rfl rfl (by kernel_rfl) (by kernel_rfl) (by kernel_rfl) (fun _ _ _ h => h) (by kernel_rfl) ?hy3 hHeld ?hr3
                case hy3 => (intro w hSw; (try dsimp only at hSw); go_simp; try (with_reducible rfl))
                case hr3 =>
                simp only [Act.put, List.setIfInBounds_toArray, List.set_cons_zero, List.set_cons_succ]
                refine held_yes 4 49 (v := ?_) rfl rfl (by kernel_rfl) (by kernel_rfl) (by kernel_rfl) (fun _ _ _ h => h) (by kernel_rfl) ?hy4 hHeld ?hr4
                case hy4 => (intro w hSw; (try dsimp only at hSw); go_simp; try (with_reducible rfl))
                case hr4 =>
                simp only [Act.put, List.setIfInBounds_toArray, List.set_cons_zero, List.set_cons_succ]
                refine held_yes 5 50 (v := ?_) rfl rfl (by kernel_rfl) (by kernel_rfl) (by kernel_rfl) (fun _ _ _ h => h) (by kernel_rfl) ?hy5 hHeld ?hr5
                case hy5 => (intro w hSw; (try dsimp only at hSw); go_simp; try (with_reducible rfl))
                case hr5 =>
                simp only [Act.put, List.setIfInBounds_toArray, List.set_cons_zero, List.set_cons_succ]
                refine held_yes 7 52 (v := ?_) rfl rfl (by kernel_rfl) (by kernel_rfl) (by kernel_rfl) (fun _ _ _ h => h) (by kernel_rfl) ?hy7 hHeld ?hr7
                case hy7 => (intro w hSw; (try dsimp only at hSw); go_simp; try (with_reducible rfl))
                case hr7 =>
                simp only [Act.put, List.setIfInBounds_toArray, List.set_cons_zero, List.set_cons_succ]
                refine wpAnyH_ready (rs := [6]) (by kernel_rfl) (by simp) (AllReadyH.cons rfl (fun K hK => ?_) AllReadyH.nil)
                clear hHeld
                go_simp
                (go_at_call 30; ((with_reducible refine (hl16 _ HG).mono ?_); rintro e w9 ⟨rfl, hg9⟩; replace HG := grown_trans HG hg9))
                refine hK.out _ _ (HB.out _ HG) (fun hHeld => ?_)
                clear hK K
                try simp only [Act.put, List.setIfInBounds_toArray, List.set_cons_zero, List.set_cons_succ]
                refine held_yes 8 53 (v := ?_) rfl rfl (by kernel_rfl) (by kernel_rfl) (by kernel_rfl) (fun _ _ _ h => h) (by kernel_rfl) ?hy8 hHeld ?hr8
                case hy8 => (intro w hSw; (try dsimp only at hSw); go_simp; try (with_reducible rfl))
                case hr8 =>
                simp only [Act.put, List.setIfInBounds_toArray, List.set_cons_zero, List.set_cons_succ]
                refine held_yes 9 54 (v := ?_) rfl rfl (by kernel_rfl) (by kernel_rfl) (by kernel_rfl) (fun _ _ _ h => h) (by kernel_rfl) ?hy9 hHeld ?hr9
                case hy9 => (intro w hSw; (try dsimp only at hSw); go_simp; try (with_reducible rfl))
                case hr9 =>
                simp only [Act.put, List.setIfInBounds_toArray, List.set_cons_zero, List.set_cons_succ]
                refine held_skip 10 55 rfl rfl (by kernel_rfl) (by kernel_rfl) (by kernel_rfl) (fun _ _ _ h => h) (by kernel_rfl) hHeld ?_
                simp only [Act.put, List.setIfInBounds_toArray, List.set_cons_zero, List.set_cons_succ]
                refine held_skip 11 56 rfl rfl (by kernel_rfl) (by kernel_rfl) (by kernel_rfl) (fun _ _ _ h => h) (by kernel_rfl) hHeld ?_
                simp only [Act.put, List.setIfInBounds_toArray, List.set_cons_zero, List.set_cons_succ]
                refine held_skip 12 57 rfl rfl (by kernel_rfl) (by kernel_rfl) (by kernel_rfl) (fun _ _ _ h => h) (by kernel_rfl) hHeld ?_
                simp only [Act.put, List.setIfInBounds_toArray, List.set_cons_zero, List.set_cons_succ]
                refine held_skip 13 58 rfl rfl (by kernel_rfl) (by kernel_rfl) (by kernel_rfl) (fun _ _ _ h => h) (by kernel_rfl) hHeld ?_
                simp only [Act.put, List.setIfInBounds_toArray, List.set_cons_zero, List.set_cons_succ]
                refine held_skip 14 59 rfl rfl (by kernel_rfl) (by kernel_rfl) (by kernel_rfl) (fun _ _ _ h => h) (by kernel_rfl) hHeld ?_
                simp only [Act.put, List.setIfInBounds_toArray, List.set_cons_zero, List.set_cons_succ]
                refine held_skip 15 60 rfl rfl (by kernel_rfl) (by kernel_rfl) (by kernel_rfl) (fun _ _ _ h => h) (by kernel_rfl) hHeld ?_
                simp only [Act.put, List.setIfInBounds_toArray, List.set_cons_zero, List.set_cons_succ]
                refine held_skip 16 61 rfl rfl (by kernel_rfl) (by kernel_rfl) (by kernel_rfl) (fun _ _ _ h => h) (by kernel_rfl) hHeld ?_
                simp only [Act.put, List.setIfInBounds_toArray, List.set_cons_zero, List.set_cons_succ]
                refine held_skip 17 62 rfl rfl (by kernel_rfl) (by kernel_rfl) (by kernel_rfl) (fun _ _ _ h => h) (by kernel_rfl) hHeld ?_
                simp only [Act.put, List.setIfInBounds_toArray, List.set_cons_zero, List.set_cons_succ]
                refine held_skip 18 63 rfl rfl (by kernel_rfl) (by kernel_rfl) (by kernel_rfl) (fun _ _ _ h => h) (by kernel_rfl) hHeld ?_
                simp only [Act.put, List.setIfInBounds_toArray, List.set_cons_zero, List.set_cons_succ]
                refine held_yes 19 64 (v := ?_) rfl rfl (by kernel_rfl) (by kernel_rfl) (by kernel_rfl) (fun _ _ _ h => h) (by kernel_rfl) ?hy19 hHeld ?hr19
                case hy19 => (intro w hSw; (try dsimp only at hSw); go_simp; try (with_reducible rfl))
                case hr19 =>
                simp only [Act.put, List.setIfInBounds_toArray, List.set_cons_zero, List.set_cons_succ]
                refine wpAnyH_done (by kernel_rfl) ?_ _
                obtain ⟨⟨m0, m1⟩, m2⟩ := HB.out _ HG
                go_wp2
                go_ret
                refine ⟨?_, grown_trans hgw HG⟩
                rw [decide_eq_false (fun hck => hrn (HCK.out.1 ((HI.out.1 hck).2 _ (by rw [HN.out]; exact hkn))).1)]
                rfl
            · have hk0' : 0 < (k : Int) := by omega
              rw [if_neg hk0] at hah
              obtain ⟨k1, hkk⟩ : ∃ k1, k - 1 = k1 := ⟨_, rfl⟩
              have u2 := HCS.out wr hgr k1 (by omega)
              rw [hkk] at hah
              rw [hah] at u2
              have ek1 : (k : Int) - 1 = (k1 : Nat) := by omega
              clear hah
              have HG : wr.grownBy wr.drew none := grown_drew (grown_refl _ _)
              have HB : Hid (∀ wq, wr.grownBy wq none → (wq.cell? ⟨w.heap.size, 0, none⟩ = some (.slice wa wn wc) ∧ wq.cell? ⟨w.heap.size, 1, none⟩ = some (.slice pa pn pc)) ∧ wq.cell? ⟨b, off + k, none⟩ = some (.int .u64 (z : Nat))) := Lib.hid fun wq hg => by
                obtain ⟨p0, p1, _, _⟩ := tx_cells (hbx wq (grown_trans hgr hg))
                have u5 := HCS.out wq (grown_trans hgr hg) _ hkn
                rw [HZ.out] at u5
                exact ⟨⟨p0, p1⟩, u5⟩
              obtain ⟨⟨t0, t1⟩, t2⟩ := HB.out _ HG
              by_cases hrn : r = 0
              · subst hrn
                have e1 : (0 != 0) = false := by simp
                by_cases hta : t = ah
                · subst hta
                  have e2 : ((t : Int) != (t : Int)) = false := by simp
                  go_wp2
                  go_region_held3 (fun wq => (wq.cell? ⟨w.heap.size, 0, none⟩ = some (.slice wa wn wc) ∧ wq.cell? ⟨w.heap.size, 1, none⟩ = some (.slice pa pn pc)) ∧ wq.cell? ⟨b, off + k, none⟩ = some (.int .u64 (z : Nat))) (go_keep)
                    (first | (go_at_call 30; ((with_reducible refine (hl16 _ HG).mono ?_); rintro e w9 ⟨rfl, hg9⟩; replace HG := grown_trans HG hg9; obtain ⟨⟨m0, m1⟩, m2⟩ := HB.out _ HG)) | (go_at_call 30; ((with_reducible refine (hl24 _ HG).mono ?_); rintro e w9 ⟨rfl, hg9⟩; replace HG := grown_trans HG hg9; obtain ⟨⟨m0, m1⟩, m2⟩ := HB.out _ HG)))
                  go_wp2
                  exact ⟨⟨k + 1, by omega, by go_num, grown_trans hgr HG, fun j hj => by
                    rcases Nat.lt_succ_iff_lt_or_eq.1 hj with h9 | rfl
                    · exact HA.out j h9
                    · exact HCK.out.2 (by simp)⟩, by simp [intOf]; omega⟩
                · have hta' : ¬ (t : Int) = (ah : Int) := by omega
                  have e2 : ((t : Int) != (ah : Int)) = true := by simp; omega
                  go_wp2
                  go_region_held3 (fun wq => (wq.cell? ⟨w.heap.size, 0, none⟩ = some (.slice wa wn wc) ∧ wq.cell? ⟨w.heap.size, 1, none⟩ = some (.slice pa pn pc)) ∧ wq.cell? ⟨b, off + k, none⟩ = some (.int .u64 (z : Nat))) (go_keep)
                    (first | (go_at_call 30; ((with_reducible refine (hl16 _ HG).mono ?_); rintro e w9 ⟨rfl, hg9⟩; replace HG := grown_trans HG hg9; obtain ⟨⟨m0, m1⟩, m2⟩ := HB.out _ HG)) | (go_at_call 30; ((with_reducible refine (hl24 _ HG).mono ?_); rintro e w9 ⟨rfl, hg9⟩; replace HG := grown_trans HG hg9; obtain ⟨⟨m0, m1⟩, m2⟩ := HB.out _ HG)))
                  go_wp2
                  go_ret
                  refine ⟨?_, grown_trans hgw HG⟩
                  rw [decide_eq_false (fun hck => hta (HCK.out.1 ((HI.out.1 hck).2 _ (by rw [HN.out]; exact hkn))).2)]
                  rfl
              · have hrn' : ¬ (r : Int) = 0 := by omega
                have e1 : ((r : Int) != 0) = true := by simp; omega
                go_wp2
                refine wp_region_held_drew (S := (fun wq => (wq.cell? ⟨w.heap.size, 0, none⟩ = some (.slice wa wn wc) ∧ wq.cell? ⟨w.heap.size, 1, none⟩ = some (.slice pa pn pc)) ∧ wq.cell? ⟨b, off + k, none⟩ = some (.int .u64 (z : Nat)))) (by kernel_rfl) (HB.out _ HG) (fun hHeld => ?_)
                refine held_yes 0 45 (v := ?_) rfl rfl (by kernel_rfl) (by kernel_rfl) (by kernel_rfl) (fun _ _ _ h => h) (by kernel_rfl) ?hy0 hHeld ?hr0
                case hy0 => (intro w hSw; (try dsimp only at hSw); go_simp; try (with_reducible rfl))
                case hr0 =>
                simp only [Act.put, List.setIfInBounds_toArray, List.set_cons_zero, List.set_cons_succ]
                refine held_yes 1 46 (v := ?_) rfl rfl (by kernel_rfl) (by kernel_rfl) (by kernel_rfl) (fun _ _ _ h => h) (by kernel_rfl) ?hy1 hHeld ?hr1
                case hy1 => (intro w hSw; (try dsimp only at hSw); go_simp; try (with_reducible rfl))
                case hr1 =>
                simp only [Act.put, List.setIfInBounds_toArray, List.set_cons_zero, List.set_cons_succ]
                refine held_yes 2 47 (v := ?_) rfl rfl (by kernel_rfl) (by kernel_rfl) (by kernel_rfl) (fun _ _ _ h => h) (by kernel_rfl) ?hy2 hHeld ?hr2
                case hy2 => (intro w hSw; (try dsimp only at hSw); go_simp; try (with_reducible rfl))
                case hr2 =>
                simp only [Act.put, List.setIfInBounds_toArray, List.set_cons_zero, List.set_cons_succ]
                refine held_yes 3 48 (v := ?_) rfl rfl (by kernel_rfl) (by kernel_rfl) (by kernel_rfl) (fun _ _ _ h => h) (by kernel_rfl) ?hy3 hHeld ?hr3
                case hy3 => (intro w hSw; (try dsimp only at hSw); go_simp; try (with_reducible rfl))
                case hr3 =>
                simp only [Act.put, List.setIfInBounds_toArray, List.set_cons_zero, List.set_cons_succ]
                refine held_yes 4 49 (v := ?_) rfl rfl (by kernel_rfl) (by kernel_rfl) (by kernel_rfl) (fun _ _ _ h => h) (by kernel_rfl) ?hy4 hHeld ?hr4
                case hy4 => (intro w hSw; (try dsimp only at hSw); go_simp; try (with_reducible rfl))
                case hr4 =>
                simp only [Act.put, List.setIfInBounds_toArray, List.set_cons_zero, List.set_cons_succ]
                refine held_yes 5 50 (v := ?_) rfl rfl (by kernel_rfl) (by kernel_rfl) (by kernel_rfl) (fun _ _ _ h => h) (by kernel_rfl) ?hy5 hHeld ?hr5
                case hy5 => (intro w hSw; (try dsimp only at hSw); go_simp; try (with_reducible rfl))
                case hr5 =>
                simp only [Act.put, List.setIfInBounds_toArray, List.set_cons_zero, List.set_cons_succ]
                refine held_yes 7 52 (v := ?_) rfl rfl (by kernel_rfl) (by kernel_rfl) (by kernel_rfl) (fun _ _ _ h => h) (by kernel_rfl) ?hy7 hHeld ?hr7
                case hy7 => (intro w hSw; (try dsimp only at hSw); go_simp; try (with_reducible rfl))
                case hr7 =>
                simp only [Act.put, List.setIfInBounds_toArray, List.set_cons_zero, List.set_cons_succ]
                refine wpAnyH_ready (rs := [6]) (by kernel_rfl) (by simp) (AllReadyH.cons rfl (fun K hK => ?_) AllReadyH.nil)
                clear hHeld
                go_simp
                (go_at_call 30; ((with_reducible refine (hl16 _ HG).mono ?_); rintro e w9 ⟨rfl, hg9⟩; replace HG := grown_trans HG hg9))
                refine hK.out _ _ (HB.out _ HG) (fun hHeld => ?_)
                clear hK K
                try simp only [Act.put, List.setIfInBounds_toArray, List.set_cons_zero, List.set_cons_succ]
                refine held_yes 8 53 (v := ?_) rfl rfl (by kernel_rfl) (by kernel_rfl) (by kernel_rfl) (fun _ _ _ h => h) (by kernel_rfl) ?hy8 hHeld ?hr8
                case hy8 => (intro w hSw; (try dsimp only at hSw); go_simp; try (with_reducible rfl))
                case hr8 =>
                simp only [Act.put, List.setIfInBounds_toArray, List.set_cons_zero, List.set_cons_succ]
                refine held_yes 9 54 (v := ?_) rfl rfl (by kernel_rfl) (by kernel_rfl) (by kernel_rfl) (fun _ _ _ h => h) (by kernel_rfl) ?hy9 hHeld ?hr9
                case hy9 => (intro w hSw; (try dsimp only at hSw); go_simp; try (with_reducible rfl))
                case hr9 =>
                simp only [Act.put, List.setIfInBounds_toArray, List.set_cons_zero, List.set_cons_succ]
                refine held_skip 10 55 rfl rfl (by kernel_rfl) (by kernel_rfl) (by kernel_rfl) (fun _ _ _ h => h) (by kernel_rfl) hHeld ?_
                simp only [Act.put, List.setIfInBounds_toArray, List.set_cons_zero, List.set_cons_succ]
                refine held_skip 11 56 rfl rfl (by kernel_rfl) (by kernel_rfl) (by kernel_rfl) (fun _ _ _ h => h) (by kernel_rfl) hHeld ?_
                simp only [Act.put, List.setIfInBounds_toArray, List.set_cons_zero, List.set_cons_succ]
                refine held_skip 12 57 rfl rfl (by kernel_rfl) (by kernel_rfl) (by kernel_rfl) (fun _ _ _ h => h) (by kernel_rfl) hHeld ?_
                simp only [Act.put, List.setIfInBounds_toArray, List.set_cons_zero, List.set_cons_succ]
                refine held_skip 13 58 rfl rfl (by kernel_rfl) (by kernel_rfl) (by kernel_rfl) (fun _ _ _ h => h) (by kernel_rfl) hHeld ?_
                simp only [Act.put, List.setIfInBounds_toArray, List.set_cons_zero, List.set_cons_succ]
                refine held_skip 14 59 rfl rfl (by kernel_rfl) (by kernel_rfl) (by kernel_rfl) (fun _ _ _ h => h) (by kernel_rfl) hHeld ?_
                simp only [Act.put, List.setIfInBounds_toArray, List.set_cons_zero, List.set_cons_succ]
                refine held_skip 15 60 rfl rfl (by kernel_rfl) (by kernel_rfl) (by kernel_rfl) (fun _ _ _ h => h) (by kernel_rfl) hHeld ?_
                simp only [Act.put, List.setIfInBounds_toArray, List.set_cons_zero, List.set_cons_succ]
                refine held_skip 16 61 rfl rfl (by kernel_rfl) (by kernel_rfl) (by kernel_rfl) (fun _ _ _ h => h) (by kernel_rfl) hHeld ?_
                simp only [Act.put, List.setIfInBounds_toArray, List.set_cons_zero, List.set_cons_succ]
                refine held_skip 17 62 rfl rfl (by kernel_rfl) (by kernel_rfl) (by kernel_rfl) (fun _ _ _ h => h) (by kernel_rfl) hHeld ?_
                simp only [Act.put, List.setIfInBounds_toArray, List.set_cons_zero, List.set_cons_succ]
                refine held_skip 18 63 rfl rfl (by kernel_rfl) (by kernel_rfl) (by kernel_rfl) (fun _ _ _ h => h) (by kernel_rfl) hHeld ?_
                simp only [Act.put, List.setIfInBounds_toArray, List.set_cons_zero, List.set_cons_succ]
                refine held_yes 19 64 (v := ?_) rfl rfl (by kernel_rfl) (by kernel_rfl) (by kernel_rfl) (fun _ _ _ h => h) (by kernel_rfl) ?hy19 hHeld ?hr19
                case hy19 => (intro w hSw; (try dsimp only at hSw); go_simp; try (with_reducible rfl))
                case hr19 =>
                simp only [Act.put, List.setIfInBounds_toArray, List.set_cons_zero, List.set_cons_succ]
                refine wpAnyH_done (by kernel_rfl) ?_ _
                obtain ⟨⟨m0, m1⟩, m2⟩ := HB.out _ HG
                go_wp2
                go_ret
                refine ⟨?_, grown_trans hgw HG⟩
                rw [decide_eq_false (fun hck => hrn (HCK.out.1 ((HI.out.1 hck).2 _ (by rw [HN.out]; exact hkn))).1)]
                rfl
        · obtain rfl : k = n := by omega
          have hkn' : ¬ (k : Int) < (k : Int) := by omega
          go_wp2
          go_ret
          refine ⟨?_, hgw⟩
          rw [decide_eq_true (HI.out.2 ⟨by simp, fun i hi => HA.out i (by rw [HN.out] at hi; exact hi)⟩)]
          rfl
    · have hxy' : ¬ (x : Int) = (y : Int) := by omega
      rw [decide_eq_false (fun hck => hxy (HI.out.1 hck).1)]
      go_enter Try.func11, Try.ntmps11
      go_wp2_with (first | (go_at_call 29; go_must ((with_reducible refine hget.mono ?_); rintro e w1 ⟨rfl, hg1⟩; have hb1 := hbx w1 hg1; obtain ⟨q0, q1, _, _⟩ := tx_cells hb1)))
      go_ret
      exact ⟨rfl, grown_trans hg0 hg1⟩
  · obtain rfl : n = 0 := by omega
    have hnil : xs = [] := List.length_eq_zero_iff.1 HN.out
    subst hnil
    have hy0 : y = 0 := hy.symm
    subst hy0
    by_cases hxy : x = 0
    · subst hxy
      rw [decide_eq_true (HI.out.2 ⟨by simp, fun i hi => by simp at hi⟩)]
      go_enter Try.func11, Try.ntmps11
      go_wp2_with (first | (go_at_call 29; go_must ((with_reducible refine hget.mono ?_); rintro e w1 ⟨rfl, hg1⟩; have hb1 := hbx w1 hg1; obtain ⟨q0, q1, _, _⟩ := tx_cells hb1)))
      go_loopw [8] (fun i wr => i = .int .i64 0 ∧ w.grownBy wr none) (fun _ _ => 0)
      case atStart => exact ⟨rfl, grown_trans hg0 hg1⟩
      case round =>
        obtain ⟨rfl, hgr⟩ := hrel
        go_wp2
        go_ret
        exact ⟨by simp, hgr⟩
    · have hxy' : ¬ (x : Int) = 0 := by omega
      rw [decide_eq_false (fun hck => hxy (HI.out.1 hck).1)]
      go_enter Try.func11, Try.ntmps11
      go_wp2_with (first | (go_at_call 29; go_must ((with_reducible refine hget.mono ?_); rintro e w1 ⟨rfl, hg1⟩; have hb1 := hbx w1 hg1; obtain ⟨q0, q1, _, _⟩ := tx_cells hb1)))
      go_ret
      exact ⟨rfl, grown_trans hg0 hg1⟩
end
end Go.Proofs.Ytkpopaadkfgjaaa
