/-
  The plain answer to who stands behind a size and an offset.
  Conditions: as said.
-/
import Derived.Test.YthhboidjibdahaaGreatTreeUa
import Derived.Test.YthhboidjibdahaaGreatTreeMb
namespace Go.Proofs.YthhboidjibdahaaGreat
open Go.RowKit
set_option linter.unusedVariables false
set_option linter.unusedSimpArgs false

theorem filter_first {p : Nat → Bool} {S : List Nat} {k y : Nat} (hk : k < S.length) (hy : S.getD k 0 = y) (hn : ∀ j, j < k → p (S.getD j 0) = false) (hp : p y = true) : atL (S.filter p) 0 = y ∧ 0 < (S.filter p).length := by
  have h1 : S = S.take k ++ y :: S.drop (k + 1) := by rw [← drop_get hk hy, List.take_append_drop]
  have h2 : (S.take k).filter p = [] := by
    rw [List.filter_eq_nil_iff]
    intro x hx
    obtain ⟨j, hj, e⟩ := List.mem_iff_getElem.1 hx
    rw [List.length_take] at hj
    rw [List.getElem_take] at e
    have := hn j (by omega)
    rw [List.getD_eq_getElem?_getD, List.getElem?_eq_getElem (by omega)] at this
    simp only [Option.getD_some] at this
    rw [← e, this]
    decide
  rw [h1, List.filter_append, h2, List.nil_append, List.filter_cons, if_pos hp]
  exact ⟨rfl, by simp⟩
theorem filter_none {p : Nat → Bool} {S : List Nat} (hn : ∀ j, j < S.length → p (S.getD j 0) = false) : S.filter p = [] := by
  rw [List.filter_eq_nil_iff]
  intro x hx
  obtain ⟨j, hj, e⟩ := List.mem_iff_getElem.1 hx
  have := hn j hj
  rw [List.getD_eq_getElem?_getD, List.getElem?_eq_getElem hj] at this
  simp only [Option.getD_some] at this
  rw [← e, this]
  decide
section
variable {w : World} {base : Nat} {wv pv : Value} {ws : List Nat} {l : List (Nat × Nat)} {la : Option Addr} {c : Nat} {L : List Nat}
set_option maxHeartbeats 4000000 in
set_option maxRecDepth 100000 in
theorem rafter_any (h : RTx w base wv pv ws l) (ok : RefOk ws l) (hm : WordsAt w la L) (hlen : L.length ≤ 100000) (hlt : ∀ x, x ∈ L → x < 18446744073709551616) (s o : Nat) :
    Calls Tryz.prog 16 #[.agg #[wv, pv], .slice la L.length c, .int .u64 s, .int .u64 o] w fun e w' => e = .returned (.tuple #[.int .u64 (atL (gtL (fun x => tS (txSee ws l x)) s o (srtK (fun x => tS (txSee ws l x)) L)) 0 : Nat), .bool (decide (0 < (gtL (fun x => tS (txSee ws l x)) s o (srtK (fun x => tS (txSee ws l x)) L)).length))]) ∧ w.grownBy w' none := by
  obtain ⟨wa, wn, wc, rfl⟩ := wv_form h.words
  obtain ⟨pa, pn, pc, rfl⟩ := pv_form h.puts
  have hg0 : w.grownBy (w.alloc (.cells #[.slice wa wn wc, .slice pa pn pc] 29)) none := World.grownBy_alloc _ _ _
  have hb0 := heap_alloc_new' w (.cells #[.slice wa wn wc, .slice pa pn pc] 29)
  have hso := rsorted_any (c := c) (h.later hg0) ok (hm.later hg0) hlen hlt
  have hsz := fun (w1 : World) (hg : w.grownBy w1 none) (x : Nat) (hx : x < 18446744073709551616) => rsize_any (h.later hg) ok.words ok.puts ok.lt x hx
  have hle := fun (w1 : World) (hg : w.grownBy w1 none) (x : Nat) (hx : x < 18446744073709551616) => rless_any (h.later hg) ok.words ok.puts ok.lt x s o hx
  obtain ⟨z, hz⟩ : ∃ z, (fun x => tS (txSee ws l x)) = z := ⟨_, rfl⟩
  rw [hz] at hle hso ⊢
  have hsz' : ∀ (w1 : World) (hg : w.grownBy w1 none) (x : Nat) (hx : x < 18446744073709551616), Calls Tryz.prog 33 #[.agg #[.slice wa wn wc, .slice pa pn pc], .int .u64 x] w1 fun e w' => e = .returned (.int .u64 (z x : Nat)) ∧ w1.grownBy w' none := fun w1 hg x hx => by
    have := hsz w1 hg x hx
    rw [← hz]
    exact this
  obtain ⟨S, hS⟩ : ∃ S, srtK z L = S := ⟨_, rfl⟩
  have hSl : S.length = L.length := by rw [← hS, srtK_length]
  have hS64 : ∀ y, y ∈ S → y < 18446744073709551616 := fun y hy => hlt y (srtK_mem.1 (hS ▸ hy))
  rw [hS] at hso ⊢
  obtain ⟨n, hn⟩ : ∃ n, L.length = n := ⟨_, rfl⟩
  rw [hn] at hlen hSl hso ⊢
  have HSL := Lib.hid hSl
  have HB := Lib.hid hb0
  have HS64 := Lib.hid hS64
  obtain ⟨r0, hr0⟩ : ∃ r0, atL (gtL z s o S) 0 = r0 := ⟨_, rfl⟩
  obtain ⟨r1, hr1⟩ : ∃ r1, decide (0 < (gtL z s o S).length) = r1 := ⟨_, rfl⟩
  have HR0 := Lib.hid hr0
  have HR1 := Lib.hid hr1
  rw [hr0, hr1]
  clear hsz hz h hn hm hb0 hS hSl hS64 hr0 hr1
  go_enter Tryz.func16, Tryz.ntmps16
  go_wp2_with (first | (go_at_call 13; ((with_reducible refine hso.mono ?_); rintro e w1 ⟨v1, rfl, ho1, hg1⟩; obtain ⟨sa, sc, hv⟩ := ho1.slice; rw [HSL.out] at hv; subst hv)))
  have HO := Lib.hid ho1
  clear ho1
  go_loopw [11] (fun i wr => ∃ k, k ≤ n ∧ i = .int .i64 (k : Nat) ∧ (∀ j, j < k → decide (ltK s o (z (S.getD j 0)) (S.getD j 0)) = false) ∧ (w.alloc (.cells #[.slice wa wn wc, .slice pa pn pc] 29)).grownBy wr none ∧ w1.grownBy wr none) (fun i _ => n - (intOf i).toNat)
  case atStart => exact ⟨0, Nat.zero_le _, rfl, fun j h => absurd h (Nat.not_lt_zero _), hg1, grown_refl _ _⟩
  case round =>
    obtain ⟨k, hk, rfl, hno, hgk, hgo⟩ := hrel
    rcases Nat.lt_or_ge k n with h1 | h1
    · obtain ⟨b, off, rfl, hb, _⟩ := (lie_at HO.out).cells (by rw [HSL.out]; omega)
      obtain ⟨y, hy⟩ : ∃ y, S.getD k 0 = y := ⟨_, rfl⟩
      have hy64 : y < 18446744073709551616 := HS64.out y (by
        rw [← hy, List.getD_eq_getElem?_getD, List.getElem?_eq_getElem (by rw [HSL.out]; exact h1)]
        exact List.getElem_mem _)
      have HYES := Lib.hid (fun (hp : ltK s o (z y) y) => filter_first (p := fun x => decide (ltK s o (z x) x)) (by rw [HSL.out]; exact h1) hy hno (decide_eq_true hp))
      have HNO := Lib.hid (fun (hp : ¬ ltK s o (z y) y) (j : Nat) (hj : j < k + 1) => (show decide (ltK s o (z (S.getD j 0)) (S.getD j 0)) = false from by
        rcases Nat.lt_or_ge j k with h2 | h2
        · exact hno j h2
        · obtain rfl : j = k := by omega
          rw [hy]
          exact decide_eq_false hp))
      have hcell : ∀ {wq : World}, wr.grownBy wq none → (wq.cell? ⟨w.heap.size, 0, none⟩ = some (.slice wa wn wc) ∧ wq.cell? ⟨w.heap.size, 1, none⟩ = some (.slice pa pn pc)) ∧ wq.cell? ⟨b, off + k, none⟩ = some (.int .u64 (y : Nat)) := fun {wq} hg => ⟨two_cells (two_held HB.out (grown_trans hgk hg)), (lie_at HO.out).keep2 (grown_trans hgo hg) HSL.out h1 hy⟩
      have hk1 : (k : Int) < (n : Int) := by omega
      have G0 := grown_trans hg0 hgk
      have HG : wr.grownBy wr.drew none := grown_drew (grown_refl _ _)
      obtain ⟨⟨t0, t1⟩, ly⟩ := hcell HG
      have HW := Lib.hid (fun (wq : World) (hg : wr.grownBy wq none) => hcell hg)
      clear hno hy hcell
      by_cases ha : keyLt z y s o
      · have hle1 : ∀ (w1 : World) (hg : w.grownBy w1 none), Calls Tryz.prog 32 #[.agg #[.slice wa wn wc, .slice pa pn pc], .int .u64 y, .int .u64 s, .int .u64 o] w1 fun e w' => e = .returned (.bool true) ∧ w1.grownBy w' none := fun w1 hg => by
          have := hle w1 hg y hy64
          rw [decide_eq_true ha] at this
          exact this
        go_wp2
        refine wp_region_held_drew (S := fun wq => (wq.cell? ⟨w.heap.size, 0, none⟩ = some (.slice wa wn wc) ∧ wq.cell? ⟨w.heap.size, 1, none⟩ = some (.slice pa pn pc)) ∧ wq.cell? ⟨b, off + k, none⟩ = some (.int .u64 (y : Nat))) (by kernel_rfl) (HW.out _ HG) (fun hHeld => ?_)
        refine held_yes 0 21 (v := ?_) rfl rfl (by kernel_rfl) (by kernel_rfl) (by kernel_rfl) (fun _ _ _ h => h) (by kernel_rfl) ?hy0 hHeld ?hr0
        case hy0 => (intro w hSw; (try dsimp only at hSw); go_simp; try (with_reducible rfl))
        case hr0 =>
        simp only [Act.put, List.setIfInBounds_toArray, List.set_cons_zero, List.set_cons_succ]
        refine held_yes 1 22 (v := ?_) rfl rfl (by kernel_rfl) (by kernel_rfl) (by kernel_rfl) (fun _ _ _ h => h) (by kernel_rfl) ?hy1 hHeld ?hr1
        case hy1 => (intro w hSw; (try dsimp only at hSw); go_simp; try (with_reducible rfl))
        case hr1 =>
        simp only [Act.put, List.setIfInBounds_toArray, List.set_cons_zero, List.set_cons_succ]
        refine held_yes 2 23 (v := ?_) rfl rfl (by kernel_rfl) (by kernel_rfl) (by kernel_rfl) (fun _ _ _ h => h) (by kernel_rfl) ?hy2 hHeld ?hr2
        case hy2 => (intro w hSw; (try dsimp only at hSw); go_simp; try (with_reducible rfl))
        case hr2 =>
        simp only [Act.put, List.setIfInBounds_toArray, List.set_cons_zero, List.set_cons_succ]
        refine held_yes 3 24 (v := ?_) rfl rfl (by kernel_rfl) (by kernel_rfl) (by kernel_rfl) (fun _ _ _ h => h) (by kernel_rfl) ?hy3 hHeld ?hr3
        case hy3 => (intro w hSw; (try dsimp only at hSw); go_simp; try (with_reducible rfl))
        case hr3 =>
        simp only [Act.put, List.setIfInBounds_toArray, List.set_cons_zero, List.set_cons_succ]
        refine held_yes 4 25 (v := ?_) rfl rfl (by kernel_rfl) (by kernel_rfl) (by kernel_rfl) (fun _ _ _ h => h) (by kernel_rfl) ?hy4 hHeld ?hr4
        case hy4 => (intro w hSw; (try dsimp only at hSw); go_simp; try (with_reducible rfl))
        case hr4 =>
        simp only [Act.put, List.setIfInBounds_toArray, List.set_cons_zero, List.set_cons_succ]
        refine held_yes 5 26 (v := ?_) rfl rfl (by kernel_rfl) (by kernel_rfl) (by kernel_rfl) (fun _ _ _ h => h) (by kernel_rfl) ?hy5 hHeld ?hr5
        case hy5 => (intro w hSw; (try dsimp only at hSw); go_simp; try (with_reducible rfl))
        case hr5 =>
        simp only [Act.put, List.setIfInBounds_toArray, List.set_cons_zero, List.set_cons_succ]
        refine held_yes 6 27 (v := ?_) rfl rfl (by kernel_rfl) (by kernel_rfl) (by kernel_rfl) (fun _ _ _ h => h) (by kernel_rfl) ?hy6 hHeld ?hr6
        case hy6 => (intro w hSw; (try dsimp only at hSw); go_simp; try (with_reducible rfl))
        case hr6 =>
        simp only [Act.put, List.setIfInBounds_toArray, List.set_cons_zero, List.set_cons_succ]
        refine wpAnyH_ready (rs := [7]) (by kernel_rfl) (by simp) (AllReadyH.cons rfl (fun K hK => ?_) AllReadyH.nil)
        clear hHeld
        go_simp
        (go_at_call 32; ((with_reducible refine (hle1 _ (grown_trans G0 HG)).mono ?_); rintro e w9 ⟨rfl, hg9⟩; replace HG := grown_trans HG hg9))
        refine hK.out _ _ (HW.out _ HG) (fun hHeld => ?_)
        clear hK K
        try simp only [Act.put, List.setIfInBounds_toArray, List.set_cons_zero, List.set_cons_succ]
        refine held_yes 8 29 (v := ?_) rfl rfl (by kernel_rfl) (by kernel_rfl) (by kernel_rfl) (fun _ _ _ h => h) (by kernel_rfl) ?hy8 hHeld ?hr8
        case hy8 => (intro w hSw; (try dsimp only at hSw); go_simp; try (with_reducible rfl))
        case hr8 =>
        simp only [Act.put, List.setIfInBounds_toArray, List.set_cons_zero, List.set_cons_succ]
        refine held_yes 9 30 (v := ?_) rfl rfl (by kernel_rfl) (by kernel_rfl) (by kernel_rfl) (fun _ _ _ h => h) (by kernel_rfl) ?hy9 hHeld ?hr9
        case hy9 => (intro w hSw; (try dsimp only at hSw); go_simp; try (with_reducible rfl))
        case hr9 =>
        simp only [Act.put, List.setIfInBounds_toArray, List.set_cons_zero, List.set_cons_succ]
        refine held_skip 10 31 rfl rfl (by kernel_rfl) (by kernel_rfl) (by kernel_rfl) (fun _ _ _ h => h) (by kernel_rfl) hHeld ?_
        simp only [Act.put, List.setIfInBounds_toArray, List.set_cons_zero, List.set_cons_succ]
        refine held_skip 11 32 rfl rfl (by kernel_rfl) (by kernel_rfl) (by kernel_rfl) (fun _ _ _ h => h) (by kernel_rfl) hHeld ?_
        simp only [Act.put, List.setIfInBounds_toArray, List.set_cons_zero, List.set_cons_succ]
        refine held_skip 12 33 rfl rfl (by kernel_rfl) (by kernel_rfl) (by kernel_rfl) (fun _ _ _ h => h) (by kernel_rfl) hHeld ?_
        simp only [Act.put, List.setIfInBounds_toArray, List.set_cons_zero, List.set_cons_succ]
        refine held_skip 13 34 rfl rfl (by kernel_rfl) (by kernel_rfl) (by kernel_rfl) (fun _ _ _ h => h) (by kernel_rfl) hHeld ?_
        simp only [Act.put, List.setIfInBounds_toArray, List.set_cons_zero, List.set_cons_succ]
        refine held_skip 14 35 rfl rfl (by kernel_rfl) (by kernel_rfl) (by kernel_rfl) (fun _ _ _ h => h) (by kernel_rfl) hHeld ?_
        simp only [Act.put, List.setIfInBounds_toArray, List.set_cons_zero, List.set_cons_succ]
        refine held_skip 15 36 rfl rfl (by kernel_rfl) (by kernel_rfl) (by kernel_rfl) (fun _ _ _ h => h) (by kernel_rfl) hHeld ?_
        simp only [Act.put, List.setIfInBounds_toArray, List.set_cons_zero, List.set_cons_succ]
        refine held_skip 16 37 rfl rfl (by kernel_rfl) (by kernel_rfl) (by kernel_rfl) (fun _ _ _ h => h) (by kernel_rfl) hHeld ?_
        simp only [Act.put, List.setIfInBounds_toArray, List.set_cons_zero, List.set_cons_succ]
        refine held_skip 17 38 rfl rfl (by kernel_rfl) (by kernel_rfl) (by kernel_rfl) (fun _ _ _ h => h) (by kernel_rfl) hHeld ?_
        simp only [Act.put, List.setIfInBounds_toArray, List.set_cons_zero, List.set_cons_succ]
        refine held_skip 18 39 rfl rfl (by kernel_rfl) (by kernel_rfl) (by kernel_rfl) (fun _ _ _ h => h) (by kernel_rfl) hHeld ?_
        simp only [Act.put, List.setIfInBounds_toArray, List.set_cons_zero, List.set_cons_succ]
        refine held_skip 19 40 rfl rfl (by kernel_rfl) (by kernel_rfl) (by kernel_rfl) (fun _ _ _ h => h) (by kernel_rfl) hHeld ?_
        simp only [Act.put, List.setIfInBounds_toArray, List.set_cons_zero, List.set_cons_succ]
        refine held_skip 20 41 rfl rfl (by kernel_rfl) (by kernel_rfl) (by kernel_rfl) (fun _ _ _ h => h) (by kernel_rfl) hHeld ?_
        simp only [Act.put, List.setIfInBounds_toArray, List.set_cons_zero, List.set_cons_succ]
        refine held_skip 21 42 rfl rfl (by kernel_rfl) (by kernel_rfl) (by kernel_rfl) (fun _ _ _ h => h) (by kernel_rfl) hHeld ?_
        simp only [Act.put, List.setIfInBounds_toArray, List.set_cons_zero, List.set_cons_succ]
        refine held_skip 22 43 rfl rfl (by kernel_rfl) (by kernel_rfl) (by kernel_rfl) (fun _ _ _ h => h) (by kernel_rfl) hHeld ?_
        simp only [Act.put, List.setIfInBounds_toArray, List.set_cons_zero, List.set_cons_succ]
        refine held_skip 23 44 rfl rfl (by kernel_rfl) (by kernel_rfl) (by kernel_rfl) (fun _ _ _ h => h) (by kernel_rfl) hHeld ?_
        simp only [Act.put, List.setIfInBounds_toArray, List.set_cons_zero, List.set_cons_succ]
        refine held_skip 24 45 rfl rfl (by kernel_rfl) (by kernel_rfl) (by kernel_rfl) (fun _ _ _ h => h) (by kernel_rfl) hHeld ?_
        simp only [Act.put, List.setIfInBounds_toArray, List.set_cons_zero, List.set_cons_succ]
        refine held_skip 25 46 rfl rfl (by kernel_rfl) (by kernel_rfl) (by kernel_rfl) (fun _ _ _ h => h) (by kernel_rfl) hHeld ?_
        simp only [Act.put, List.setIfInBounds_toArray, List.set_cons_zero, List.set_cons_succ]
        refine held_yes 26 47 (v := ?_) rfl rfl (by kernel_rfl) (by kernel_rfl) (by kernel_rfl) (fun _ _ _ h => h) (by kernel_rfl) ?hy26 hHeld ?hr26
        case hy26 => (intro w hSw; (try dsimp only at hSw); go_simp; try (with_reducible rfl))
        case hr26 =>
        simp only [Act.put, List.setIfInBounds_toArray, List.set_cons_zero, List.set_cons_succ]
        refine wpAnyH_done (by kernel_rfl) ?_ _
        clear t0 t1 ly
        go_wp2
        go_roundw
        case rel => exact ⟨k + 1, by omega, by go_num, HNO.out (by unfold keyLt at ha; unfold ltK; omega), grown_trans hgk HG, grown_trans hgo HG⟩
        case measure => simp [intOf]; omega
      · have hle1 : ∀ (w1 : World) (hg : w.grownBy w1 none), Calls Tryz.prog 32 #[.agg #[.slice wa wn wc, .slice pa pn pc], .int .u64 y, .int .u64 s, .int .u64 o] w1 fun e w' => e = .returned (.bool false) ∧ w1.grownBy w' none := fun w1 hg => by
          have := hle w1 hg y hy64
          rw [decide_eq_false ha] at this
          exact this
        by_cases hz : z y = s
        · by_cases hyo : y = o
          · subst hyo
            have e1 : ((z y : Int) != (s : Int)) = false := by rw [hz]; simp
            have e2 : ((y : Int) != (y : Int)) = false := by simp
            go_wp2
            go_region_held3 (fun wq => (wq.cell? ⟨w.heap.size, 0, none⟩ = some (.slice wa wn wc) ∧ wq.cell? ⟨w.heap.size, 1, none⟩ = some (.slice pa pn pc)) ∧ wq.cell? ⟨b, off + k, none⟩ = some (.int .u64 (y : Nat))) (exact HW.out _ HG) (first | (go_at_call 32; ((with_reducible refine (hle1 _ (grown_trans G0 HG)).mono ?_); rintro e w9 ⟨rfl, hg9⟩; replace HG := grown_trans HG hg9); obtain ⟨⟨t0, t1⟩, ly⟩ := HW.out _ HG) | (go_at_call 33; ((with_reducible refine (hsz' _ (grown_trans G0 HG) y hy64).mono ?_); rintro e w9 ⟨rfl, hg9⟩; replace HG := grown_trans HG hg9); obtain ⟨⟨t0, t1⟩, ly⟩ := HW.out _ HG))
            clear t0 t1 ly
            go_wp2
            go_roundw
            case rel => exact ⟨k + 1, by omega, by go_num, HNO.out (by unfold ltK; omega), grown_trans hgk HG, grown_trans hgo HG⟩
            case measure => simp [intOf]; omega
          · have e1 : ((z y : Int) != (s : Int)) = false := by rw [hz]; simp
            have e2 : ((y : Int) != (o : Int)) = true := by simp; omega
            go_wp2
            go_region_held3 (fun wq => (wq.cell? ⟨w.heap.size, 0, none⟩ = some (.slice wa wn wc) ∧ wq.cell? ⟨w.heap.size, 1, none⟩ = some (.slice pa pn pc)) ∧ wq.cell? ⟨b, off + k, none⟩ = some (.int .u64 (y : Nat))) (exact HW.out _ HG) (first | (go_at_call 32; ((with_reducible refine (hle1 _ (grown_trans G0 HG)).mono ?_); rintro e w9 ⟨rfl, hg9⟩; replace HG := grown_trans HG hg9); obtain ⟨⟨t0, t1⟩, ly⟩ := HW.out _ HG) | (go_at_call 33; ((with_reducible refine (hsz' _ (grown_trans G0 HG) y hy64).mono ?_); rintro e w9 ⟨rfl, hg9⟩; replace HG := grown_trans HG hg9); obtain ⟨⟨t0, t1⟩, ly⟩ := HW.out _ HG))
            obtain ⟨⟨t0, t1⟩, ly⟩ := HW.out _ HG
            go_wp2
            refine bodyPost_ret (v := .tuple #[.int .u64 y, .bool true]) (by simp [results, Tryz.results16, go_sem]) rfl ?_
            refine ⟨?_, grown_trans G0 HG⟩
            have hff := HYES.out (by unfold keyLt at ha; unfold ltK; omega)
            rw [← HR0.out, ← HR1.out]
            unfold gtL
            rw [hff.1, decide_eq_true hff.2]
        · have e1 : ((z y : Int) != (s : Int)) = true := by simp; omega
          go_wp2
          refine wp_region_held_drew (S := fun wq => (wq.cell? ⟨w.heap.size, 0, none⟩ = some (.slice wa wn wc) ∧ wq.cell? ⟨w.heap.size, 1, none⟩ = some (.slice pa pn pc)) ∧ wq.cell? ⟨b, off + k, none⟩ = some (.int .u64 (y : Nat))) (by kernel_rfl) (HW.out _ HG) (fun hHeld => ?_)
          refine held_yes 0 21 (v := ?_) rfl rfl (by kernel_rfl) (by kernel_rfl) (by kernel_rfl) (fun _ _ _ h => h) (by kernel_rfl) ?hy0 hHeld ?hr0
          case hy0 => (intro w hSw; (try dsimp only at hSw); go_simp; try (with_reducible rfl))
          case hr0 =>
          simp only [Act.put, List.setIfInBounds_toArray, List.set_cons_zero, List.set_cons_succ]
          refine held_yes 1 22 (v := ?_) rfl rfl (by kernel_rfl) (by kernel_rfl) (by kernel_rfl) (fun _ _ _ h => h) (by kernel_rfl) ?hy1 hHeld ?hr1
          case hy1 => (intro w hSw; (try dsimp only at hSw); go_simp; try (with_reducible rfl))
          case hr1 =>
          simp only [Act.put, List.setIfInBounds_toArray, List.set_cons_zero, List.set_cons_succ]
          refine held_yes 2 23 (v := ?_) rfl rfl (by kernel_rfl) (by kernel_rfl) (by kernel_rfl) (fun _ _ _ h => h) (by kernel_rfl) ?hy2 hHeld ?hr2
          case hy2 => (intro w hSw; (try dsimp only at hSw); go_simp; try (with_reducible rfl))
          case hr2 =>
          simp only [Act.put, List.setIfInBounds_toArray, List.set_cons_zero, List.set_cons_succ]
          refine held_yes 3 24 (v := ?_) rfl rfl (by kernel_rfl) (by kernel_rfl) (by kernel_rfl) (fun _ _ _ h => h) (by kernel_rfl) ?hy3 hHeld ?hr3
          case hy3 => (intro w hSw; (try dsimp only at hSw); go_simp; try (with_reducible rfl))
          case hr3 =>
          simp only [Act.put, List.setIfInBounds_toArray, List.set_cons_zero, List.set_cons_succ]
          refine held_yes 4 25 (v := ?_) rfl rfl (by kernel_rfl) (by kernel_rfl) (by kernel_rfl) (fun _ _ _ h => h) (by kernel_rfl) ?hy4 hHeld ?hr4
          case hy4 => (intro w hSw; (try dsimp only at hSw); go_simp; try (with_reducible rfl))
          case hr4 =>
          simp only [Act.put, List.setIfInBounds_toArray, List.set_cons_zero, List.set_cons_succ]
          refine held_yes 5 26 (v := ?_) rfl rfl (by kernel_rfl) (by kernel_rfl) (by kernel_rfl) (fun _ _ _ h => h) (by kernel_rfl) ?hy5 hHeld ?hr5
          case hy5 => (intro w hSw; (try dsimp only at hSw); go_simp; try (with_reducible rfl))
          case hr5 =>
          simp only [Act.put, List.setIfInBounds_toArray, List.set_cons_zero, List.set_cons_succ]
          refine held_yes 6 27 (v := ?_) rfl rfl (by kernel_rfl) (by kernel_rfl) (by kernel_rfl) (fun _ _ _ h => h) (by kernel_rfl) ?hy6 hHeld ?hr6
          case hy6 => (intro w hSw; (try dsimp only at hSw); go_simp; try (with_reducible rfl))
          case hr6 =>
          simp only [Act.put, List.setIfInBounds_toArray, List.set_cons_zero, List.set_cons_succ]
          refine wpAnyH_ready (rs := [7]) (by kernel_rfl) (by simp) (AllReadyH.cons rfl (fun K hK => ?_) AllReadyH.nil)
          clear hHeld
          go_simp
          (go_at_call 32; ((with_reducible refine (hle1 _ (grown_trans G0 HG)).mono ?_); rintro e w9 ⟨rfl, hg9⟩; replace HG := grown_trans HG hg9))
          refine hK.out _ _ (HW.out _ HG) (fun hHeld => ?_)
          clear hK K
          try simp only [Act.put, List.setIfInBounds_toArray, List.set_cons_zero, List.set_cons_succ]
          refine held_yes 8 29 (v := ?_) rfl rfl (by kernel_rfl) (by kernel_rfl) (by kernel_rfl) (fun _ _ _ h => h) (by kernel_rfl) ?hy8 hHeld ?hr8
          case hy8 => (intro w hSw; (try dsimp only at hSw); go_simp; try (with_reducible rfl))
          case hr8 =>
          simp only [Act.put, List.setIfInBounds_toArray, List.set_cons_zero, List.set_cons_succ]
          refine held_yes 9 30 (v := ?_) rfl rfl (by kernel_rfl) (by kernel_rfl) (by kernel_rfl) (fun _ _ _ h => h) (by kernel_rfl) ?hy9 hHeld ?hr9
          case hy9 => (intro w hSw; (try dsimp only at hSw); go_simp; try (with_reducible rfl))
          case hr9 =>
          simp only [Act.put, List.setIfInBounds_toArray, List.set_cons_zero, List.set_cons_succ]
          refine held_yes 10 31 (v := ?_) rfl rfl (by kernel_rfl) (by kernel_rfl) (by kernel_rfl) (fun _ _ _ h => h) (by kernel_rfl) ?hy10 hHeld ?hr10
          case hy10 => (intro w hSw; (try dsimp only at hSw); go_simp; try (with_reducible rfl))
          case hr10 =>
          simp only [Act.put, List.setIfInBounds_toArray, List.set_cons_zero, List.set_cons_succ]
          refine held_yes 11 32 (v := ?_) rfl rfl (by kernel_rfl) (by kernel_rfl) (by kernel_rfl) (fun _ _ _ h => h) (by kernel_rfl) ?hy11 hHeld ?hr11
          case hy11 => (intro w hSw; (try dsimp only at hSw); go_simp; try (with_reducible rfl))
          case hr11 =>
          simp only [Act.put, List.setIfInBounds_toArray, List.set_cons_zero, List.set_cons_succ]
          refine held_yes 12 33 (v := ?_) rfl rfl (by kernel_rfl) (by kernel_rfl) (by kernel_rfl) (fun _ _ _ h => h) (by kernel_rfl) ?hy12 hHeld ?hr12
          case hy12 => (intro w hSw; (try dsimp only at hSw); go_simp; try (with_reducible rfl))
          case hr12 =>
          simp only [Act.put, List.setIfInBounds_toArray, List.set_cons_zero, List.set_cons_succ]
          refine held_yes 13 34 (v := ?_) rfl rfl (by kernel_rfl) (by kernel_rfl) (by kernel_rfl) (fun _ _ _ h => h) (by kernel_rfl) ?hy13 hHeld ?hr13
          case hy13 => (intro w hSw; (try dsimp only at hSw); go_simp; try (with_reducible rfl))
          case hr13 =>
          simp only [Act.put, List.setIfInBounds_toArray, List.set_cons_zero, List.set_cons_succ]
          refine held_yes 14 35 (v := ?_) rfl rfl (by kernel_rfl) (by kernel_rfl) (by kernel_rfl) (fun _ _ _ h => h) (by kernel_rfl) ?hy14 hHeld ?hr14
          case hy14 => (intro w hSw; (try dsimp only at hSw); go_simp; try (with_reducible rfl))
          case hr14 =>
          simp only [Act.put, List.setIfInBounds_toArray, List.set_cons_zero, List.set_cons_succ]
          refine held_yes 16 37 (v := ?_) rfl rfl (by kernel_rfl) (by kernel_rfl) (by kernel_rfl) (fun _ _ _ h => h) (by kernel_rfl) ?hy16 hHeld ?hr16
          case hy16 => (intro w hSw; (try dsimp only at hSw); go_simp; try (with_reducible rfl))
          case hr16 =>
          simp only [Act.put, List.setIfInBounds_toArray, List.set_cons_zero, List.set_cons_succ]
          refine wpAnyH_ready (rs := [15]) (by kernel_rfl) (by simp) (AllReadyH.cons rfl (fun K hK => ?_) AllReadyH.nil)
          clear hHeld
          go_simp
          (go_at_call 33; ((with_reducible refine (hsz' _ (grown_trans G0 HG) y hy64).mono ?_); rintro e w9 ⟨rfl, hg9⟩; replace HG := grown_trans HG hg9))
          refine hK.out _ _ (HW.out _ HG) (fun hHeld => ?_)
          clear hK K
          try simp only [Act.put, List.setIfInBounds_toArray, List.set_cons_zero, List.set_cons_succ]
          refine held_yes 17 38 (v := ?_) rfl rfl (by kernel_rfl) (by kernel_rfl) (by kernel_rfl) (fun _ _ _ h => h) (by kernel_rfl) ?hy17 hHeld ?hr17
          case hy17 => (intro w hSw; (try dsimp only at hSw); go_simp; try (with_reducible rfl))
          case hr17 =>
          simp only [Act.put, List.setIfInBounds_toArray, List.set_cons_zero, List.set_cons_succ]
          refine held_yes 18 39 (v := ?_) rfl rfl (by kernel_rfl) (by kernel_rfl) (by kernel_rfl) (fun _ _ _ h => h) (by kernel_rfl) ?hy18 hHeld ?hr18
          case hy18 => (intro w hSw; (try dsimp only at hSw); go_simp; try (with_reducible rfl))
          case hr18 =>
          simp only [Act.put, List.setIfInBounds_toArray, List.set_cons_zero, List.set_cons_succ]
          refine held_skip 19 40 rfl rfl (by kernel_rfl) (by kernel_rfl) (by kernel_rfl) (fun _ _ _ h => h) (by kernel_rfl) hHeld ?_
          simp only [Act.put, List.setIfInBounds_toArray, List.set_cons_zero, List.set_cons_succ]
          refine held_skip 20 41 rfl rfl (by kernel_rfl) (by kernel_rfl) (by kernel_rfl) (fun _ _ _ h => h) (by kernel_rfl) hHeld ?_
          simp only [Act.put, List.setIfInBounds_toArray, List.set_cons_zero, List.set_cons_succ]
          refine held_skip 21 42 rfl rfl (by kernel_rfl) (by kernel_rfl) (by kernel_rfl) (fun _ _ _ h => h) (by kernel_rfl) hHeld ?_
          simp only [Act.put, List.setIfInBounds_toArray, List.set_cons_zero, List.set_cons_succ]
          refine held_skip 22 43 rfl rfl (by kernel_rfl) (by kernel_rfl) (by kernel_rfl) (fun _ _ _ h => h) (by kernel_rfl) hHeld ?_
          simp only [Act.put, List.setIfInBounds_toArray, List.set_cons_zero, List.set_cons_succ]
          refine held_skip 23 44 rfl rfl (by kernel_rfl) (by kernel_rfl) (by kernel_rfl) (fun _ _ _ h => h) (by kernel_rfl) hHeld ?_
          simp only [Act.put, List.setIfInBounds_toArray, List.set_cons_zero, List.set_cons_succ]
          refine held_skip 24 45 rfl rfl (by kernel_rfl) (by kernel_rfl) (by kernel_rfl) (fun _ _ _ h => h) (by kernel_rfl) hHeld ?_
          simp only [Act.put, List.setIfInBounds_toArray, List.set_cons_zero, List.set_cons_succ]
          refine held_yes 25 46 (v := ?_) rfl rfl (by kernel_rfl) (by kernel_rfl) (by kernel_rfl) (fun _ _ _ h => h) (by kernel_rfl) ?hy25 hHeld ?hr25
          case hy25 => (intro w hSw; (try dsimp only at hSw); go_simp; try (with_reducible rfl))
          case hr25 =>
          simp only [Act.put, List.setIfInBounds_toArray, List.set_cons_zero, List.set_cons_succ]
          refine held_yes 26 47 (v := ?_) rfl rfl (by kernel_rfl) (by kernel_rfl) (by kernel_rfl) (fun _ _ _ h => h) (by kernel_rfl) ?hy26 hHeld ?hr26
          case hy26 => (intro w hSw; (try dsimp only at hSw); go_simp; try (with_reducible rfl))
          case hr26 =>
          simp only [Act.put, List.setIfInBounds_toArray, List.set_cons_zero, List.set_cons_succ]
          refine wpAnyH_done (by kernel_rfl) ?_ _
          obtain ⟨⟨t0, t1⟩, ly⟩ := HW.out _ HG
          go_wp2
          refine bodyPost_ret (v := .tuple #[.int .u64 y, .bool true]) (by simp [results, Tryz.results16, go_sem]) rfl ?_
          refine ⟨?_, grown_trans G0 HG⟩
          have hff := HYES.out (by unfold keyLt at ha; unfold ltK; omega)
          rw [← HR0.out, ← HR1.out]
          unfold gtL
          rw [hff.1, decide_eq_true hff.2]
    · obtain rfl : k = n := by omega
      have hnil : gtL z s o S = [] := filter_none (p := fun x => decide (ltK s o (z x) x)) (fun j hj => hno j (by rw [HSL.out] at hj; exact hj))
      have HNI := Lib.hid hnil
      clear hno hnil
      go_wp2
      refine bodyPost_ret (v := .tuple #[.int .u64 0, .bool false]) (by simp [results, Tryz.results16, go_sem]) rfl ?_
      refine ⟨?_, grown_trans hg0 hgk⟩
      rw [← HR0.out, ← HR1.out, HNI.out]
      rfl
end
end Go.Proofs.YthhboidjibdahaaGreat
