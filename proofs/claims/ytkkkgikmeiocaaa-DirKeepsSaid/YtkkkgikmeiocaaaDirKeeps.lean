/-
  What was put is found, until it is dropped, whatever other names come and go behind it. The statement DirKeeps; no condition.
-/
import Derived.Test.YtkkkgikmeiocaaaLDik
import Derived.Test.YtkkkgikmeiocaaaLTxa
import Derived.Test.YtkkkgikmeiocaaaRows
import Derived.Lib.SmallJoins
import Derived.ProofKit
import Derived.OpenShut
import Derived.Carry
import Derived.ChangeOld
import Derived.Deep.RegionHeld3
namespace Go.Proofs.Ytkkkgikmeiocaaa.dirKeeps
open Go.ChangeShapes Go.WideShapes Go.ChangeAt Go.RowKit
set_option linter.unusedVariables false
set_option linter.unusedSimpArgs false
set_option maxRecDepth 100000

/-- what stands through the loop -/
structure Kp (w : World) (T : Nat) (ws : List Nat) (x : Bool) (s : ByteArray) (o j : Nat) (wr : World) : Prop where
  box : wr.heap[w.heap.size]? = some (.cells #[.bool x, .string s, .int .u64 (o : Nat)] 47 (0, 0))
  tx : ∃ R f, DF w wr T R ws f ∧ DirOk NmD f ∧ stN f s = some j ∧ f (dAt j + 16) = o
section
variable {w wr w' : World} {T o j p : Nat} {ws : List Nat} {x : Bool} {s t : ByteArray}
theorem Kp.since (h : Kp w T ws x s o j wr) : w.grownBy wr none := by
  obtain ⟨R, f, h1, _⟩ := h.tx
  exact h1.since
theorem Kp.later (h : Kp w T ws x s o j wr) (hg : wr.grownBy w' none) : Kp w T ws x s o j w' := by
  obtain ⟨hb, R, f, h1, h2⟩ := h
  exact ⟨(hg.block _ (lt_of_block hb) (by simp)).trans hb, R, f, h1.later hg, h2⟩
theorem Kp.drop (h : Kp w T ws x s o j wr) (ht : t.size ≤ maxLen) (hne : t ≠ s) : Calls Try.prog 20 #[.pointer (some ⟨T, 0, none⟩), .string t] wr fun e w' => (∃ b, e = .returned (.bool b)) ∧ Kp w T ws x s o j w' := by
  obtain ⟨hb, R, f, h1, h2, h3, h4⟩ := h
  refine (ddrop_c h1 ht).mono ?_
  rintro e w' ⟨rfl, R', h5, k⟩
  obtain ⟨k1, k2⟩ := st_drop h3 hne
  exact ⟨⟨_, rfl⟩, k.far hb (by decide) (by decide), R', _, h5, ok_drop h2, k1, k2.trans h4⟩
theorem Kp.put (h : Kp w T ws x s o j wr) (ht : t.size ≤ maxLen) (hp : p < 18446744073709551616) (hne : t ≠ s) : Calls Try.prog 19 #[.pointer (some ⟨T, 0, none⟩), .string t, .int .u64 (p : Nat)] wr fun e w' => (∃ b : Nat, e = .returned (.int .i64 (b : Nat))) ∧ Kp w T ws x s o j w' := by
  obtain ⟨hb, R, f, h1, h2, h3, h4⟩ := h
  refine (dput_c h1 ht hp).mono ?_
  rintro e w' ⟨rfl, R', h5, k⟩
  obtain ⟨k1, k2⟩ := st_put (p := p) h3 hne
  exact ⟨⟨_, rfl⟩, k.far hb (by decide) (by decide), R', _, h5, ok_put h2, k1, k2.trans h4⟩
end
set_option maxHeartbeats 8000000 in
theorem core {w : World} {la lk : Option Addr} {n c m cm o : Nat} {X Y : Nat → Bool} {S Q : Nat → ByteArray} {O P : Nat → Nat} {x : Bool} {s : ByteArray} (hp : NamesAt w la n X S O) (hn : n ≤ maxLen) (hpk : NamesAt w lk m Y Q P) (hm : m ≤ maxLen) (hs : s.size ≤ maxLen) (ho : o < 18446744073709551616) :
    Calls Try.prog 4 #[.slice la n c, .agg #[.bool x, .string s, .int .u64 (o : Nat)], .slice lk m cm] w fun e w' => e = .returned (.bool true) ∧ w.grownBy w' none := by
  have hb0 := heap_alloc_new' w (.cells #[.bool x, .string s, .int .u64 (o : Nat)] 47)
  have hg0 := World.grownBy_alloc w (.cells #[.bool x, .string s, .int .u64 (o : Nat)] 47) none
  obtain ⟨ws, f1, hok, hpl⟩ := played13_nil (c := c) hp hn
  obtain ⟨z, hz⟩ : ∃ z, IntKind.i64.wrap ((n : Int) + (m : Int)) = z := ⟨_, rfl⟩
  have HB0 := Lib.hid hb0
  have HPL := Lib.hid hpl
  have HPK := Lib.hid hpk
  have HS := Lib.hid hs
  have HO := Lib.hid ho
  have HOK := Lib.hid hok
  obtain ⟨y0, y1, y2⟩ := tag_cells hb0
  clear hb0 hpl hp hpk hs ho hok
  by_cases h38 : 38 < z
  · go_enter Try.func4, Try.ntmps4
    go_wp2_with (first | (go_at_call 8; ((with_reducible refine (awake13 _).mono ?_); rintro e w1 ⟨rfl, hg1⟩)))
    go_ret
    exact ⟨rfl, grown_trans hg0 hg1⟩
  · by_cases h100 : 100 < s.size
    · have hi : (100 : Int) < (s.size : Int) := by omega
      go_enter Try.func4, Try.ntmps4
      go_wp2_with (first | (go_at_call 8; ((with_reducible refine (awake13 _).mono ?_); rintro e w1 ⟨rfl, hg1⟩; have b1 := (hg1.block _ (lt_of_block HB0.out) (by simp)).trans HB0.out; obtain ⟨y0, y1, y2⟩ := tag_cells b1; clear b1)))
      go_ret
      exact ⟨rfl, grown_trans hg0 hg1⟩
    · have hi : ¬ (100 : Int) < (s.size : Int) := by omega
      obtain ⟨en, een⟩ : ∃ e, putN f1 s o = e := ⟨_, rfl⟩
      have HEN := Lib.hid een
      clear een h100
      by_cases he : en = 0
      · subst he
        have hen : ((0 : Int) != 0) = false := by decide
        go_enter Try.func4, Try.ntmps4
        go_wp2_with (first
          | (go_at_call 8; ((with_reducible refine (awake13 _).mono ?_); rintro e w1 ⟨rfl, hg1⟩; have b1 := (hg1.block _ (lt_of_block HB0.out) (by simp)).trans HB0.out; obtain ⟨y0, y1, y2⟩ := tag_cells b1; have HB1 := Lib.hid b1; clear b1; have g1 := grown_trans hg0 hg1))
          | (go_at_call 9; go_must ((with_reducible refine (HPL.out _ g1).mono ?_); rintro e w2 ⟨T, R, wv, pv, rfl, hD, hX, hne⟩; obtain ⟨⟨wa, wn, wc, rfl⟩, pa, pn, pc, rfl⟩ := hX.form; have ga := World.grownBy_alloc w2 (.cells #[.slice wa wn wc, .slice pa pn pc] 28) none; have D3 := (hD.later ga).from g1; have b2 := ((grown_trans hD.since ga).block _ (lt_of_block HB1.out) (by simp)).trans HB1.out; obtain ⟨y0, y1, y2⟩ := tag_cells b2; have HB2 := Lib.hid b2; clear b2; have c3 := dput_c D3 HS.out HO.out; rw [HEN.out] at c3; have c3' : Calls Try.prog 19 #[.pointer (some ⟨T, 0, none⟩), .string s, .int .u64 (o : Nat)] _ fun e w' => e = .returned (.int .i64 0) ∧ _ := c3))
          | (go_at_call 19; go_must ((with_reducible refine c3'.mono ?_); rintro e w4 ⟨rfl, R4, D4, k4⟩; have b4 := k4.far HB2.out (by decide) (by decide); obtain ⟨y0, y1, y2⟩ := tag_cells b4; have HB4 := Lib.hid b4; clear b4)))
        obtain ⟨j, s1, s2⟩ := st_new HEN.out
        have K4 : Kp w T ws x s o j w4 := ⟨HB4.out, R4, _, D4, ok_put HOK.out, s1, s2⟩
        have HK4 := Lib.hid K4
        clear K4 D4 k4 c3 c3' D3 hD hX hne s1 s2 HB4 HB2 HB1 HB0 ga HEN
        go_loopw [12] (fun i wr => ∃ k : Nat, k ≤ m ∧ i = .int .i64 k ∧ Kp w T ws x s o j wr) (fun i _ => m - (intOf i).toNat)
        case atStart => exact ⟨0, Nat.zero_le _, rfl, HK4.out⟩
        case round =>
          obtain ⟨k, hk, rfl, HKk⟩ := hrel
          clear HK4
          by_cases hlt : k < m
          · have hgw := HKk.since
            obtain ⟨b, off, rfl, hb, hcs⟩ := (HPK.out.later hgw).cells (by omega)
            have hcl : ∀ w', w.grownBy w' none → w'.cell? ⟨b, off + k * 3, none⟩ = some (.bool (Y k)) ∧ w'.cell? ⟨b, off + k * 3 + 1, none⟩ = some (.string (Q k)) ∧ w'.cell? ⟨b, off + k * 3 + 2, none⟩ = some (.int .u64 (P k : Nat)) := fun w' hg => by
              obtain ⟨b', off', e, hbw, h⟩ := (HPK.out.later hg).cells (by omega)
              injection e with e
              injection e with e1 e2
              subst e1
              subst e2
              exact h k hlt
            have hlk := HPK.out.lt k
            obtain ⟨yk, ey⟩ : ∃ x, Y k = x := ⟨_, rfl⟩
            obtain ⟨sk, es⟩ : ∃ s, Q k = s := ⟨_, rfl⟩
            obtain ⟨ok, eo⟩ : ∃ o, P k = o := ⟨_, rfl⟩
            rw [ey, es, eo] at hcl
            rw [es, eo] at hlk
            have hki : (k : Int) < (m : Int) := by omega
            have hk1 : IntKind.i64.wrap ((k : Int) + 1) = ((k + 1 : Nat) : Int) := by rw [IntKind.wrap_i64]; unfold maxLen at hm; omega
            have hms : m - (k + 1) < m - k := by omega
            have hcell : ∀ V, wr.grownBy V none → V.cell? ⟨b, off + k * 3 + 1, none⟩ = some (.string sk) ∧ V.cell? ⟨b, off + k * 3 + 2, none⟩ = some (.int .u64 (ok : Nat)) ∧ V.cell? ⟨w.heap.size, 1, none⟩ = some (.string s) := fun V hg => by
              obtain ⟨_, q1, q2⟩ := hcl V (grown_trans hgw hg)
              obtain ⟨_, q3, _⟩ := tag_cells (HKk.later hg).box
              exact ⟨q1, q2, q3⟩
            have HCELL := Lib.hid hcell
            have HCL := Lib.hid hcl
            have HKK := Lib.hid HKk
            have HG : wr.grownBy wr.drew none := grown_drew (grown_refl _ _)
            obtain ⟨q1, q2, q3⟩ := hcell _ HG
            clear hcl hcs ey es eo hcell HKk
            by_cases hes : sk = s
            · have hes' := hes.symm
              subst hes'
              go_wp2
              refine wp_region_held_drew (S := (fun V => V.cell? ⟨b, off + k * 3 + 1, none⟩ = some (.string s) ∧ V.cell? ⟨b, off + k * 3 + 2, none⟩ = some (.int .u64 (ok : Nat)) ∧ V.cell? ⟨w.heap.size, 1, none⟩ = some (.string s))) (by kernel_rfl) (HCELL.out _ HG) (fun hHeld => ?_)
              refine held_yes 0 57 (v := ?_) rfl rfl (by kernel_rfl) (by kernel_rfl) (by kernel_rfl) (fun _ _ _ h => h) (by kernel_rfl) ?hy0 hHeld ?hr0
              case hy0 => (intro w hSw; (try dsimp only at hSw); go_simp; try (with_reducible rfl))
              case hr0 =>
              simp only [Act.put, List.setIfInBounds_toArray, List.set_cons_zero, List.set_cons_succ]
              refine held_yes 1 58 (v := ?_) rfl rfl (by kernel_rfl) (by kernel_rfl) (by kernel_rfl) (fun _ _ _ h => h) (by kernel_rfl) ?hy1 hHeld ?hr1
              case hy1 => (intro w hSw; (try dsimp only at hSw); go_simp; try (with_reducible rfl))
              case hr1 =>
              simp only [Act.put, List.setIfInBounds_toArray, List.set_cons_zero, List.set_cons_succ]
              refine held_yes 2 59 (v := ?_) rfl rfl (by kernel_rfl) (by kernel_rfl) (by kernel_rfl) (fun _ _ _ h => h) (by kernel_rfl) ?hy2 hHeld ?hr2
              case hy2 => (intro w hSw; (try dsimp only at hSw); go_simp; try (with_reducible rfl))
              case hr2 =>
              simp only [Act.put, List.setIfInBounds_toArray, List.set_cons_zero, List.set_cons_succ]
              refine held_yes 3 60 (v := ?_) rfl rfl (by kernel_rfl) (by kernel_rfl) (by kernel_rfl) (fun _ _ _ h => h) (by kernel_rfl) ?hy3 hHeld ?hr3
              case hy3 => (intro w hSw; (try dsimp only at hSw); go_simp; try (with_reducible rfl))
              case hr3 =>
              simp only [Act.put, List.setIfInBounds_toArray, List.set_cons_zero, List.set_cons_succ]
              refine held_yes 4 61 (v := ?_) rfl rfl (by kernel_rfl) (by kernel_rfl) (by kernel_rfl) (fun _ _ _ h => h) (by kernel_rfl) ?hy4 hHeld ?hr4
              case hy4 => (intro w hSw; (try dsimp only at hSw); go_simp; try (with_reducible rfl))
              case hr4 =>
              simp only [Act.put, List.setIfInBounds_toArray, List.set_cons_zero, List.set_cons_succ]
              refine held_yes 5 62 (v := ?_) rfl rfl (by kernel_rfl) (by kernel_rfl) (by kernel_rfl) (fun _ _ _ h => h) (by kernel_rfl) ?hy5 hHeld ?hr5
              case hy5 => (intro w hSw; (try dsimp only at hSw); go_simp; try (with_reducible rfl))
              case hr5 =>
              simp only [Act.put, List.setIfInBounds_toArray, List.set_cons_zero, List.set_cons_succ]
              refine held_yes 6 63 (v := ?_) rfl rfl (by kernel_rfl) (by kernel_rfl) (by kernel_rfl) (fun _ _ _ h => h) (by kernel_rfl) ?hy6 hHeld ?hr6
              case hy6 => (intro w hSw; (try dsimp only at hSw); go_simp; try (with_reducible rfl))
              case hr6 =>
              simp only [Act.put, List.setIfInBounds_toArray, List.set_cons_zero, List.set_cons_succ]
              refine held_yes 7 64 (v := ?_) rfl rfl (by kernel_rfl) (by kernel_rfl) (by kernel_rfl) (fun _ _ _ h => h) (by kernel_rfl) ?hy7 hHeld ?hr7
              case hy7 => (intro w hSw; (try dsimp only at hSw); go_simp; try (with_reducible rfl))
              case hr7 =>
              simp only [Act.put, List.setIfInBounds_toArray, List.set_cons_zero, List.set_cons_succ]
              refine held_yes 8 65 (v := ?_) rfl rfl (by kernel_rfl) (by kernel_rfl) (by kernel_rfl) (fun _ _ _ h => h) (by kernel_rfl) ?hy8 hHeld ?hr8
              case hy8 => (intro w hSw; (try dsimp only at hSw); go_simp; try (with_reducible rfl))
              case hr8 =>
              simp only [Act.put, List.setIfInBounds_toArray, List.set_cons_zero, List.set_cons_succ]
              refine held_skip 9 66 rfl rfl (by kernel_rfl) (by kernel_rfl) (by kernel_rfl) (fun _ _ _ h => h) (by kernel_rfl) hHeld ?_
              simp only [Act.put, List.setIfInBounds_toArray, List.set_cons_zero, List.set_cons_succ]
              refine held_skip 10 67 rfl rfl (by kernel_rfl) (by kernel_rfl) (by kernel_rfl) (fun _ _ _ h => h) (by kernel_rfl) hHeld ?_
              simp only [Act.put, List.setIfInBounds_toArray, List.set_cons_zero, List.set_cons_succ]
              refine held_skip 11 68 rfl rfl (by kernel_rfl) (by kernel_rfl) (by kernel_rfl) (fun _ _ _ h => h) (by kernel_rfl) hHeld ?_
              simp only [Act.put, List.setIfInBounds_toArray, List.set_cons_zero, List.set_cons_succ]
              refine held_skip 12 69 rfl rfl (by kernel_rfl) (by kernel_rfl) (by kernel_rfl) (fun _ _ _ h => h) (by kernel_rfl) hHeld ?_
              simp only [Act.put, List.setIfInBounds_toArray, List.set_cons_zero, List.set_cons_succ]
              refine held_skip 13 70 rfl rfl (by kernel_rfl) (by kernel_rfl) (by kernel_rfl) (fun _ _ _ h => h) (by kernel_rfl) hHeld ?_
              simp only [Act.put, List.setIfInBounds_toArray, List.set_cons_zero, List.set_cons_succ]
              refine held_skip 14 71 rfl rfl (by kernel_rfl) (by kernel_rfl) (by kernel_rfl) (fun _ _ _ h => h) (by kernel_rfl) hHeld ?_
              simp only [Act.put, List.setIfInBounds_toArray, List.set_cons_zero, List.set_cons_succ]
              refine held_skip 15 72 rfl rfl (by kernel_rfl) (by kernel_rfl) (by kernel_rfl) (fun _ _ _ h => h) (by kernel_rfl) hHeld ?_
              simp only [Act.put, List.setIfInBounds_toArray, List.set_cons_zero, List.set_cons_succ]
              refine held_yes 16 73 (v := ?_) rfl rfl (by kernel_rfl) (by kernel_rfl) (by kernel_rfl) (fun _ _ _ h => h) (by kernel_rfl) ?hy16 hHeld ?hr16
              case hy16 => (intro w hSw; (try dsimp only at hSw); go_simp; try (with_reducible rfl))
              case hr16 =>
              simp only [Act.put, List.setIfInBounds_toArray, List.set_cons_zero, List.set_cons_succ]
              refine wpAnyH_done (by kernel_rfl) ?_ _
              go_wp2
              go_roundw
              case rel => exact ⟨k + 1, by omega, by go_num, HKK.out.later HG⟩
              case measure => simp [intOf]; omega
            · have hel : ¬ sk.toList = s.toList := fun h => hes (by rw [ByteArray.toList_eq, ByteArray.toList_eq] at h; exact ByteArray.ext (Array.ext' h))
              by_cases h100k : 100 < sk.size
              · have hki2 : (100 : Int) < (sk.size : Int) := by omega
                obtain ⟨p1, p2, p3⟩ := HCELL.out _ (grown_refl _ _)
                obtain ⟨p0, _, _⟩ := HCL.out _ hgw
                go_wp2
                refine wp_region_held_drew (S := (fun V => V.cell? ⟨b, off + k * 3 + 1, none⟩ = some (.string sk) ∧ V.cell? ⟨b, off + k * 3 + 2, none⟩ = some (.int .u64 (ok : Nat)) ∧ V.cell? ⟨w.heap.size, 1, none⟩ = some (.string s))) (by kernel_rfl) (HCELL.out _ HG) (fun hHeld => ?_)
                refine held_yes 0 57 (v := ?_) rfl rfl (by kernel_rfl) (by kernel_rfl) (by kernel_rfl) (fun _ _ _ h => h) (by kernel_rfl) ?hy0 hHeld ?hr0
                case hy0 => (intro w hSw; (try dsimp only at hSw); go_simp; try (with_reducible rfl))
                case hr0 =>
                simp only [Act.put, List.setIfInBounds_toArray, List.set_cons_zero, List.set_cons_succ]
                refine held_yes 1 58 (v := ?_) rfl rfl (by kernel_rfl) (by kernel_rfl) (by kernel_rfl) (fun _ _ _ h => h) (by kernel_rfl) ?hy1 hHeld ?hr1
                case hy1 => (intro w hSw; (try dsimp only at hSw); go_simp; try (with_reducible rfl))
                case hr1 =>
                simp only [Act.put, List.setIfInBounds_toArray, List.set_cons_zero, List.set_cons_succ]
                refine held_yes 2 59 (v := ?_) rfl rfl (by kernel_rfl) (by kernel_rfl) (by kernel_rfl) (fun _ _ _ h => h) (by kernel_rfl) ?hy2 hHeld ?hr2
                case hy2 => (intro w hSw; (try dsimp only at hSw); go_simp; try (with_reducible rfl))
                case hr2 =>
                simp only [Act.put, List.setIfInBounds_toArray, List.set_cons_zero, List.set_cons_succ]
                refine held_yes 3 60 (v := ?_) rfl rfl (by kernel_rfl) (by kernel_rfl) (by kernel_rfl) (fun _ _ _ h => h) (by kernel_rfl) ?hy3 hHeld ?hr3
                case hy3 => (intro w hSw; (try dsimp only at hSw); go_simp; try (with_reducible rfl))
                case hr3 =>
                simp only [Act.put, List.setIfInBounds_toArray, List.set_cons_zero, List.set_cons_succ]
                refine held_yes 4 61 (v := ?_) rfl rfl (by kernel_rfl) (by kernel_rfl) (by kernel_rfl) (fun _ _ _ h => h) (by kernel_rfl) ?hy4 hHeld ?hr4
                case hy4 => (intro w hSw; (try dsimp only at hSw); go_simp; try (with_reducible rfl))
                case hr4 =>
                simp only [Act.put, List.setIfInBounds_toArray, List.set_cons_zero, List.set_cons_succ]
                refine held_yes 5 62 (v := ?_) rfl rfl (by kernel_rfl) (by kernel_rfl) (by kernel_rfl) (fun _ _ _ h => h) (by kernel_rfl) ?hy5 hHeld ?hr5
                case hy5 => (intro w hSw; (try dsimp only at hSw); go_simp; try (with_reducible rfl))
                case hr5 =>
                simp only [Act.put, List.setIfInBounds_toArray, List.set_cons_zero, List.set_cons_succ]
                refine held_yes 6 63 (v := ?_) rfl rfl (by kernel_rfl) (by kernel_rfl) (by kernel_rfl) (fun _ _ _ h => h) (by kernel_rfl) ?hy6 hHeld ?hr6
                case hy6 => (intro w hSw; (try dsimp only at hSw); go_simp; try (with_reducible rfl))
                case hr6 =>
                simp only [Act.put, List.setIfInBounds_toArray, List.set_cons_zero, List.set_cons_succ]
                refine held_yes 7 64 (v := .bool false) rfl rfl (by kernel_rfl) (by kernel_rfl) (by kernel_rfl) (fun _ _ _ h => h) (by kernel_rfl) ?hy7 hHeld ?hr7
                case hy7 => (intro w hSw; (try dsimp only at hSw); go_simp; try simp [hel])
                case hr7 =>
                simp only [Act.put, List.setIfInBounds_toArray, List.set_cons_zero, List.set_cons_succ]
                refine held_yes 8 65 (v := .bool false) rfl rfl (by kernel_rfl) (by kernel_rfl) (by kernel_rfl) (fun _ _ _ h => h) (by kernel_rfl) ?hy8 hHeld ?hr8
                case hy8 => (intro w hSw; (try dsimp only at hSw); go_simp; try (with_reducible rfl))
                case hr8 =>
                simp only [Act.put, List.setIfInBounds_toArray, List.set_cons_zero, List.set_cons_succ]
                refine held_yes 9 66 (v := ?_) rfl rfl (by kernel_rfl) (by kernel_rfl) (by kernel_rfl) (fun _ _ _ h => h) (by kernel_rfl) ?hy9 hHeld ?hr9
                case hy9 => (intro w hSw; (try dsimp only at hSw); go_simp; try (with_reducible rfl))
                case hr9 =>
                simp only [Act.put, List.setIfInBounds_toArray, List.set_cons_zero, List.set_cons_succ]
                refine held_yes 10 67 (v := ?_) rfl rfl (by kernel_rfl) (by kernel_rfl) (by kernel_rfl) (fun _ _ _ h => h) (by kernel_rfl) ?hy10 hHeld ?hr10
                case hy10 => (intro w hSw; (try dsimp only at hSw); go_simp; try (with_reducible rfl))
                case hr10 =>
                simp only [Act.put, List.setIfInBounds_toArray, List.set_cons_zero, List.set_cons_succ]
                refine held_yes 11 68 (v := ?_) rfl rfl (by kernel_rfl) (by kernel_rfl) (by kernel_rfl) (fun _ _ _ h => h) (by kernel_rfl) ?hy11 hHeld ?hr11
                case hy11 => (intro w hSw; (try dsimp only at hSw); go_simp; try (with_reducible rfl))
                case hr11 =>
                simp only [Act.put, List.setIfInBounds_toArray, List.set_cons_zero, List.set_cons_succ]
                refine held_yes 12 69 (v := ?_) rfl rfl (by kernel_rfl) (by kernel_rfl) (by kernel_rfl) (fun _ _ _ h => h) (by kernel_rfl) ?hy12 hHeld ?hr12
                case hy12 => (intro w hSw; (try dsimp only at hSw); go_simp; try (with_reducible rfl))
                case hr12 =>
                simp only [Act.put, List.setIfInBounds_toArray, List.set_cons_zero, List.set_cons_succ]
                refine held_yes 13 70 (v := ?_) rfl rfl (by kernel_rfl) (by kernel_rfl) (by kernel_rfl) (fun _ _ _ h => h) (by kernel_rfl) ?hy13 hHeld ?hr13
                case hy13 => (intro w hSw; (try dsimp only at hSw); go_simp; try (with_reducible rfl))
                case hr13 =>
                simp only [Act.put, List.setIfInBounds_toArray, List.set_cons_zero, List.set_cons_succ]
                refine held_yes 14 71 (v := ?_) rfl rfl (by kernel_rfl) (by kernel_rfl) (by kernel_rfl) (fun _ _ _ h => h) (by kernel_rfl) ?hy14 hHeld ?hr14
                case hy14 => (intro w hSw; (try dsimp only at hSw); go_simp; try (with_reducible rfl))
                case hr14 =>
                simp only [Act.put, List.setIfInBounds_toArray, List.set_cons_zero, List.set_cons_succ]
                refine held_yes 15 72 (v := ?_) rfl rfl (by kernel_rfl) (by kernel_rfl) (by kernel_rfl) (fun _ _ _ h => h) (by kernel_rfl) ?hy15 hHeld ?hr15
                case hy15 => (intro w hSw; (try dsimp only at hSw); go_simp; try (with_reducible rfl))
                case hr15 =>
                simp only [Act.put, List.setIfInBounds_toArray, List.set_cons_zero, List.set_cons_succ]
                refine held_yes 16 73 (v := ?_) rfl rfl (by kernel_rfl) (by kernel_rfl) (by kernel_rfl) (fun _ _ _ h => h) (by kernel_rfl) ?hy16 hHeld ?hr16
                case hy16 => (intro w hSw; (try dsimp only at hSw); go_simp; try (with_reducible rfl))
                case hr16 =>
                simp only [Act.put, List.setIfInBounds_toArray, List.set_cons_zero, List.set_cons_succ]
                refine wpAnyH_done (by kernel_rfl) ?_ _
                go_wp2
                go_roundw
                case rel => exact ⟨k + 1, by omega, by go_num, HKK.out.later HG⟩
                case measure => simp [intOf]; omega
              · have hki2 : ¬ (100 : Int) < (sk.size : Int) := by omega
                obtain ⟨p1, p2, p3⟩ := HCELL.out _ (grown_refl _ _)
                obtain ⟨p0, _, _⟩ := HCL.out _ hgw
                cases yk with
                | true =>
                  have hde := (HKK.out.later HG).drop hlk.1 hes
                  have HDE := Lib.hid hde
                  clear hde
                  obtain ⟨d0, d1, d2⟩ := HCL.out _ (grown_trans hgw HG)
                  go_wp2
                  refine wp_region_held_drew (S := (fun V => V.cell? ⟨b, off + k * 3 + 1, none⟩ = some (.string sk) ∧ V.cell? ⟨b, off + k * 3 + 2, none⟩ = some (.int .u64 (ok : Nat)) ∧ V.cell? ⟨w.heap.size, 1, none⟩ = some (.string s))) (by kernel_rfl) (HCELL.out _ HG) (fun hHeld => ?_)
                  refine held_yes 0 57 (v := ?_) rfl rfl (by kernel_rfl) (by kernel_rfl) (by kernel_rfl) (fun _ _ _ h => h) (by kernel_rfl) ?hy0 hHeld ?hr0
                  case hy0 => (intro w hSw; (try dsimp only at hSw); go_simp; try (with_reducible rfl))
                  case hr0 =>
                  simp only [Act.put, List.setIfInBounds_toArray, List.set_cons_zero, List.set_cons_succ]
                  refine held_yes 1 58 (v := ?_) rfl rfl (by kernel_rfl) (by kernel_rfl) (by kernel_rfl) (fun _ _ _ h => h) (by kernel_rfl) ?hy1 hHeld ?hr1
                  case hy1 => (intro w hSw; (try dsimp only at hSw); go_simp; try (with_reducible rfl))
                  case hr1 =>
                  simp only [Act.put, List.setIfInBounds_toArray, List.set_cons_zero, List.set_cons_succ]
                  refine held_yes 2 59 (v := ?_) rfl rfl (by kernel_rfl) (by kernel_rfl) (by kernel_rfl) (fun _ _ _ h => h) (by kernel_rfl) ?hy2 hHeld ?hr2
                  case hy2 => (intro w hSw; (try dsimp only at hSw); go_simp; try (with_reducible rfl))
                  case hr2 =>
                  simp only [Act.put, List.setIfInBounds_toArray, List.set_cons_zero, List.set_cons_succ]
                  refine held_yes 3 60 (v := ?_) rfl rfl (by kernel_rfl) (by kernel_rfl) (by kernel_rfl) (fun _ _ _ h => h) (by kernel_rfl) ?hy3 hHeld ?hr3
                  case hy3 => (intro w hSw; (try dsimp only at hSw); go_simp; try (with_reducible rfl))
                  case hr3 =>
                  simp only [Act.put, List.setIfInBounds_toArray, List.set_cons_zero, List.set_cons_succ]
                  refine held_yes 4 61 (v := ?_) rfl rfl (by kernel_rfl) (by kernel_rfl) (by kernel_rfl) (fun _ _ _ h => h) (by kernel_rfl) ?hy4 hHeld ?hr4
                  case hy4 => (intro w hSw; (try dsimp only at hSw); go_simp; try (with_reducible rfl))
                  case hr4 =>
                  simp only [Act.put, List.setIfInBounds_toArray, List.set_cons_zero, List.set_cons_succ]
                  refine held_yes 5 62 (v := ?_) rfl rfl (by kernel_rfl) (by kernel_rfl) (by kernel_rfl) (fun _ _ _ h => h) (by kernel_rfl) ?hy5 hHeld ?hr5
                  case hy5 => (intro w hSw; (try dsimp only at hSw); go_simp; try (with_reducible rfl))
                  case hr5 =>
                  simp only [Act.put, List.setIfInBounds_toArray, List.set_cons_zero, List.set_cons_succ]
                  refine held_yes 6 63 (v := ?_) rfl rfl (by kernel_rfl) (by kernel_rfl) (by kernel_rfl) (fun _ _ _ h => h) (by kernel_rfl) ?hy6 hHeld ?hr6
                  case hy6 => (intro w hSw; (try dsimp only at hSw); go_simp; try (with_reducible rfl))
                  case hr6 =>
                  simp only [Act.put, List.setIfInBounds_toArray, List.set_cons_zero, List.set_cons_succ]
                  refine held_yes 7 64 (v := .bool false) rfl rfl (by kernel_rfl) (by kernel_rfl) (by kernel_rfl) (fun _ _ _ h => h) (by kernel_rfl) ?hy7 hHeld ?hr7
                  case hy7 => (intro w hSw; (try dsimp only at hSw); go_simp; try simp [hel])
                  case hr7 =>
                  simp only [Act.put, List.setIfInBounds_toArray, List.set_cons_zero, List.set_cons_succ]
                  refine held_yes 8 65 (v := .bool false) rfl rfl (by kernel_rfl) (by kernel_rfl) (by kernel_rfl) (fun _ _ _ h => h) (by kernel_rfl) ?hy8 hHeld ?hr8
                  case hy8 => (intro w hSw; (try dsimp only at hSw); go_simp; try (with_reducible rfl))
                  case hr8 =>
                  simp only [Act.put, List.setIfInBounds_toArray, List.set_cons_zero, List.set_cons_succ]
                  refine held_yes 9 66 (v := ?_) rfl rfl (by kernel_rfl) (by kernel_rfl) (by kernel_rfl) (fun _ _ _ h => h) (by kernel_rfl) ?hy9 hHeld ?hr9
                  case hy9 => (intro w hSw; (try dsimp only at hSw); go_simp; try (with_reducible rfl))
                  case hr9 =>
                  simp only [Act.put, List.setIfInBounds_toArray, List.set_cons_zero, List.set_cons_succ]
                  refine held_yes 10 67 (v := ?_) rfl rfl (by kernel_rfl) (by kernel_rfl) (by kernel_rfl) (fun _ _ _ h => h) (by kernel_rfl) ?hy10 hHeld ?hr10
                  case hy10 => (intro w hSw; (try dsimp only at hSw); go_simp; try (with_reducible rfl))
                  case hr10 =>
                  simp only [Act.put, List.setIfInBounds_toArray, List.set_cons_zero, List.set_cons_succ]
                  refine held_yes 11 68 (v := ?_) rfl rfl (by kernel_rfl) (by kernel_rfl) (by kernel_rfl) (fun _ _ _ h => h) (by kernel_rfl) ?hy11 hHeld ?hr11
                  case hy11 => (intro w hSw; (try dsimp only at hSw); go_simp; try (with_reducible rfl))
                  case hr11 =>
                  simp only [Act.put, List.setIfInBounds_toArray, List.set_cons_zero, List.set_cons_succ]
                  refine held_yes 12 69 (v := ?_) rfl rfl (by kernel_rfl) (by kernel_rfl) (by kernel_rfl) (fun _ _ _ h => h) (by kernel_rfl) ?hy12 hHeld ?hr12
                  case hy12 => (intro w hSw; (try dsimp only at hSw); go_simp; try (with_reducible rfl))
                  case hr12 =>
                  simp only [Act.put, List.setIfInBounds_toArray, List.set_cons_zero, List.set_cons_succ]
                  refine held_yes 13 70 (v := ?_) rfl rfl (by kernel_rfl) (by kernel_rfl) (by kernel_rfl) (fun _ _ _ h => h) (by kernel_rfl) ?hy13 hHeld ?hr13
                  case hy13 => (intro w hSw; (try dsimp only at hSw); go_simp; try (with_reducible rfl))
                  case hr13 =>
                  simp only [Act.put, List.setIfInBounds_toArray, List.set_cons_zero, List.set_cons_succ]
                  refine held_yes 14 71 (v := ?_) rfl rfl (by kernel_rfl) (by kernel_rfl) (by kernel_rfl) (fun _ _ _ h => h) (by kernel_rfl) ?hy14 hHeld ?hr14
                  case hy14 => (intro w hSw; (try dsimp only at hSw); go_simp; try (with_reducible rfl))
                  case hr14 =>
                  simp only [Act.put, List.setIfInBounds_toArray, List.set_cons_zero, List.set_cons_succ]
                  refine held_yes 15 72 (v := ?_) rfl rfl (by kernel_rfl) (by kernel_rfl) (by kernel_rfl) (fun _ _ _ h => h) (by kernel_rfl) ?hy15 hHeld ?hr15
                  case hy15 => (intro w hSw; (try dsimp only at hSw); go_simp; try (with_reducible rfl))
                  case hr15 =>
                  simp only [Act.put, List.setIfInBounds_toArray, List.set_cons_zero, List.set_cons_succ]
                  refine held_yes 16 73 (v := ?_) rfl rfl (by kernel_rfl) (by kernel_rfl) (by kernel_rfl) (fun _ _ _ h => h) (by kernel_rfl) ?hy16 hHeld ?hr16
                  case hy16 => (intro w hSw; (try dsimp only at hSw); go_simp; try (with_reducible rfl))
                  case hr16 =>
                  simp only [Act.put, List.setIfInBounds_toArray, List.set_cons_zero, List.set_cons_succ]
                  refine wpAnyH_done (by kernel_rfl) ?_ _
                  go_wp2_with (first | (go_at_call 20; go_must ((with_reducible refine HDE.out.mono ?_); rintro e w5 ⟨⟨bb, rfl⟩, K5⟩)))
                  go_roundw
                  case rel => exact ⟨k + 1, by omega, by go_num, K5⟩
                  case measure => simp [intOf]; omega
                | false =>
                  have HGG : wr.grownBy wr.drew.drew none := grown_drew HG
                  have hde := (HKK.out.later HGG).put hlk.1 hlk.2 hes
                  have HDE := Lib.hid hde
                  obtain ⟨d0, d1, d2⟩ := HCL.out _ (grown_trans hgw HG)
                  obtain ⟨g0, g1', g2⟩ := HCL.out _ (grown_trans hgw HGG)
                  have HKP := Lib.hid (fun (V : World) (h : Kp w T ws x s o j V) => (tag_cells h.box).2.1)
                  clear hde
                  go_wp2
                  refine wp_region_held_drew (S := (fun V => V.cell? ⟨b, off + k * 3 + 1, none⟩ = some (.string sk) ∧ V.cell? ⟨b, off + k * 3 + 2, none⟩ = some (.int .u64 (ok : Nat)) ∧ V.cell? ⟨w.heap.size, 1, none⟩ = some (.string s))) (by kernel_rfl) (HCELL.out _ HG) (fun hHeld => ?_)
                  refine held_yes 0 57 (v := ?_) rfl rfl (by kernel_rfl) (by kernel_rfl) (by kernel_rfl) (fun _ _ _ h => h) (by kernel_rfl) ?hy0 hHeld ?hr0
                  case hy0 => (intro w hSw; (try dsimp only at hSw); go_simp; try (with_reducible rfl))
                  case hr0 =>
                  simp only [Act.put, List.setIfInBounds_toArray, List.set_cons_zero, List.set_cons_succ]
                  refine held_yes 1 58 (v := ?_) rfl rfl (by kernel_rfl) (by kernel_rfl) (by kernel_rfl) (fun _ _ _ h => h) (by kernel_rfl) ?hy1 hHeld ?hr1
                  case hy1 => (intro w hSw; (try dsimp only at hSw); go_simp; try (with_reducible rfl))
                  case hr1 =>
                  simp only [Act.put, List.setIfInBounds_toArray, List.set_cons_zero, List.set_cons_succ]
                  refine held_yes 2 59 (v := ?_) rfl rfl (by kernel_rfl) (by kernel_rfl) (by kernel_rfl) (fun _ _ _ h => h) (by kernel_rfl) ?hy2 hHeld ?hr2
                  case hy2 => (intro w hSw; (try dsimp only at hSw); go_simp; try (with_reducible rfl))
                  case hr2 =>
                  simp only [Act.put, List.setIfInBounds_toArray, List.set_cons_zero, List.set_cons_succ]
                  refine held_yes 3 60 (v := ?_) rfl rfl (by kernel_rfl) (by kernel_rfl) (by kernel_rfl) (fun _ _ _ h => h) (by kernel_rfl) ?hy3 hHeld ?hr3
                  case hy3 => (intro w hSw; (try dsimp only at hSw); go_simp; try (with_reducible rfl))
                  case hr3 =>
                  simp only [Act.put, List.setIfInBounds_toArray, List.set_cons_zero, List.set_cons_succ]
                  refine held_yes 4 61 (v := ?_) rfl rfl (by kernel_rfl) (by kernel_rfl) (by kernel_rfl) (fun _ _ _ h => h) (by kernel_rfl) ?hy4 hHeld ?hr4
                  case hy4 => (intro w hSw; (try dsimp only at hSw); go_simp; try (with_reducible rfl))
                  case hr4 =>
                  simp only [Act.put, List.setIfInBounds_toArray, List.set_cons_zero, List.set_cons_succ]
                  refine held_yes 5 62 (v := ?_) rfl rfl (by kernel_rfl) (by kernel_rfl) (by kernel_rfl) (fun _ _ _ h => h) (by kernel_rfl) ?hy5 hHeld ?hr5
                  case hy5 => (intro w hSw; (try dsimp only at hSw); go_simp; try (with_reducible rfl))
                  case hr5 =>
                  simp only [Act.put, List.setIfInBounds_toArray, List.set_cons_zero, List.set_cons_succ]
                  refine held_yes 6 63 (v := ?_) rfl rfl (by kernel_rfl) (by kernel_rfl) (by kernel_rfl) (fun _ _ _ h => h) (by kernel_rfl) ?hy6 hHeld ?hr6
                  case hy6 => (intro w hSw; (try dsimp only at hSw); go_simp; try (with_reducible rfl))
                  case hr6 =>
                  simp only [Act.put, List.setIfInBounds_toArray, List.set_cons_zero, List.set_cons_succ]
                  refine held_yes 7 64 (v := .bool false) rfl rfl (by kernel_rfl) (by kernel_rfl) (by kernel_rfl) (fun _ _ _ h => h) (by kernel_rfl) ?hy7 hHeld ?hr7
                  case hy7 => (intro w hSw; (try dsimp only at hSw); go_simp; try simp [hel])
                  case hr7 =>
                  simp only [Act.put, List.setIfInBounds_toArray, List.set_cons_zero, List.set_cons_succ]
                  refine held_yes 8 65 (v := .bool false) rfl rfl (by kernel_rfl) (by kernel_rfl) (by kernel_rfl) (fun _ _ _ h => h) (by kernel_rfl) ?hy8 hHeld ?hr8
                  case hy8 => (intro w hSw; (try dsimp only at hSw); go_simp; try (with_reducible rfl))
                  case hr8 =>
                  simp only [Act.put, List.setIfInBounds_toArray, List.set_cons_zero, List.set_cons_succ]
                  refine held_yes 9 66 (v := ?_) rfl rfl (by kernel_rfl) (by kernel_rfl) (by kernel_rfl) (fun _ _ _ h => h) (by kernel_rfl) ?hy9 hHeld ?hr9
                  case hy9 => (intro w hSw; (try dsimp only at hSw); go_simp; try (with_reducible rfl))
                  case hr9 =>
                  simp only [Act.put, List.setIfInBounds_toArray, List.set_cons_zero, List.set_cons_succ]
                  refine held_yes 10 67 (v := ?_) rfl rfl (by kernel_rfl) (by kernel_rfl) (by kernel_rfl) (fun _ _ _ h => h) (by kernel_rfl) ?hy10 hHeld ?hr10
                  case hy10 => (intro w hSw; (try dsimp only at hSw); go_simp; try (with_reducible rfl))
                  case hr10 =>
                  simp only [Act.put, List.setIfInBounds_toArray, List.set_cons_zero, List.set_cons_succ]
                  refine held_yes 11 68 (v := ?_) rfl rfl (by kernel_rfl) (by kernel_rfl) (by kernel_rfl) (fun _ _ _ h => h) (by kernel_rfl) ?hy11 hHeld ?hr11
                  case hy11 => (intro w hSw; (try dsimp only at hSw); go_simp; try (with_reducible rfl))
                  case hr11 =>
                  simp only [Act.put, List.setIfInBounds_toArray, List.set_cons_zero, List.set_cons_succ]
                  refine held_yes 12 69 (v := ?_) rfl rfl (by kernel_rfl) (by kernel_rfl) (by kernel_rfl) (fun _ _ _ h => h) (by kernel_rfl) ?hy12 hHeld ?hr12
                  case hy12 => (intro w hSw; (try dsimp only at hSw); go_simp; try (with_reducible rfl))
                  case hr12 =>
                  simp only [Act.put, List.setIfInBounds_toArray, List.set_cons_zero, List.set_cons_succ]
                  refine held_yes 13 70 (v := ?_) rfl rfl (by kernel_rfl) (by kernel_rfl) (by kernel_rfl) (fun _ _ _ h => h) (by kernel_rfl) ?hy13 hHeld ?hr13
                  case hy13 => (intro w hSw; (try dsimp only at hSw); go_simp; try (with_reducible rfl))
                  case hr13 =>
                  simp only [Act.put, List.setIfInBounds_toArray, List.set_cons_zero, List.set_cons_succ]
                  refine held_yes 14 71 (v := ?_) rfl rfl (by kernel_rfl) (by kernel_rfl) (by kernel_rfl) (fun _ _ _ h => h) (by kernel_rfl) ?hy14 hHeld ?hr14
                  case hy14 => (intro w hSw; (try dsimp only at hSw); go_simp; try (with_reducible rfl))
                  case hr14 =>
                  simp only [Act.put, List.setIfInBounds_toArray, List.set_cons_zero, List.set_cons_succ]
                  refine held_yes 15 72 (v := ?_) rfl rfl (by kernel_rfl) (by kernel_rfl) (by kernel_rfl) (fun _ _ _ h => h) (by kernel_rfl) ?hy15 hHeld ?hr15
                  case hy15 => (intro w hSw; (try dsimp only at hSw); go_simp; try (with_reducible rfl))
                  case hr15 =>
                  simp only [Act.put, List.setIfInBounds_toArray, List.set_cons_zero, List.set_cons_succ]
                  refine held_yes 16 73 (v := ?_) rfl rfl (by kernel_rfl) (by kernel_rfl) (by kernel_rfl) (fun _ _ _ h => h) (by kernel_rfl) ?hy16 hHeld ?hr16
                  case hy16 => (intro w hSw; (try dsimp only at hSw); go_simp; try (with_reducible rfl))
                  case hr16 =>
                  simp only [Act.put, List.setIfInBounds_toArray, List.set_cons_zero, List.set_cons_succ]
                  refine wpAnyH_done (by kernel_rfl) ?_ _
                  go_wp2
                  go_region_held3 (fun V => V.cell? ⟨b, off + k * 3 + 1, none⟩ = some (.string sk) ∧ V.cell? ⟨b, off + k * 3 + 2, none⟩ = some (.int .u64 (ok : Nat))) (first | exact ⟨g1', g2⟩ | assumption) (first | (go_at_call 19; go_must ((with_reducible refine HDE.out.mono ?_); rintro e w5 ⟨⟨bb, rfl⟩, K5⟩; obtain ⟨_, r1, r2⟩ := HCL.out _ K5.since; have hr := And.intro r1 r2)))
                  go_wp2
                  go_roundw
                  case rel => exact ⟨k + 1, by omega, by go_num, K5⟩
                  case measure => simp [intOf]; omega
          · obtain rfl : k = m := by omega
            have hkk : ¬ (k : Int) < (k : Int) := by omega
            obtain ⟨hbk, R, f, h1, h2, h3, h4⟩ := HKk
            obtain ⟨y0, y1, y2⟩ := tag_cells hbk
            have cf : Calls Try.prog 10 #[.pointer (some ⟨T, 0, none⟩), .string s] wr fun e w' => e = .returned (.tuple #[.int .u64 (o : Nat), .bool true]) ∧ wr.grownBy w' none := by
              have := dfind_c h1 HS.out
              unfold fndN at this
              rw [h3] at this
              dsimp only at this
              rw [h4] at this
              exact this
            have hp7 := put_there (p := 9) h3
            have hp9 : putW f s 9 = f := putW_not (by rw [hp7]; decide)
            have cp : ∀ V, wr.grownBy V none → Calls Try.prog 19 #[.pointer (some ⟨T, 0, none⟩), .string s, .int .u64 9] V fun e w' => e = .returned (.int .i64 7) ∧ ∃ R', DF w w' T R' ws f ∧ Keep V R w' R' := fun V hg => by
              have := dput_c (p := 9) (h1.later hg) HS.out (by decide)
              rw [hp7, hp9] at this
              exact this
            have cd : ∀ V R, DF w V T R ws f → Calls Try.prog 20 #[.pointer (some ⟨T, 0, none⟩), .string s] V fun e w' => e = .returned (.bool true) ∧ ∃ R', DF w w' T R' ws (drpF f s) ∧ Keep V R w' R' := fun V R h => by
              have := ddrop_c h HS.out
              rw [h3] at this
              exact this
            have hgone := st_gone h2 h3
            have cf2 : ∀ V R, DF w V T R ws (drpF f s) → Calls Try.prog 10 #[.pointer (some ⟨T, 0, none⟩), .string s] V fun e w' => e = .returned (.tuple #[.int .u64 0, .bool false]) ∧ V.grownBy w' none := fun V R h => by
              have := dfind_c h HS.out
              unfold fndN at this
              rw [hgone] at this
              exact this
            have cd2 : ∀ V R, DF w V T R ws (drpF f s) → Calls Try.prog 20 #[.pointer (some ⟨T, 0, none⟩), .string s] V fun e w' => e = .returned (.bool false) ∧ ∃ R', DF w w' T R' ws (drpF (drpF f s) s) ∧ Keep V R w' R' := fun V R h => by
              have := ddrop_c h HS.out
              rw [hgone] at this
              exact this
            have HB := Lib.hid hbk
            have CP := Lib.hid cp
            have CD := Lib.hid cd
            have CF2 := Lib.hid cf2
            have CD2 := Lib.hid cd2
            have hoo : ((o : Int) == (o : Int)) = true := by simp
            clear hbk h1 h2 h3 h4 hp7 hp9 cp cd cf2 cd2 hgone hlt
            go_wp2_with (first
              | (go_at_call 10; ((with_reducible refine cf.mono ?_); rintro e w5 ⟨rfl, hg5⟩; have b5 := (hg5.block _ (lt_of_block HB.out) (by simp)).trans HB.out; obtain ⟨y0, y1, y2⟩ := tag_cells b5; have HB5 := Lib.hid b5; clear b5; have c5 := CP.out _ hg5))
              | (go_at_call 19; ((with_reducible refine c5.mono ?_); rintro e w6 ⟨rfl, R6, D6, k6⟩; have b6 := k6.far HB5.out (by decide) (by decide); obtain ⟨y0, y1, y2⟩ := tag_cells b6; have HB6 := Lib.hid b6; clear b6; have c6 := CD.out _ _ D6))
              | (go_at_call 20; ((with_reducible refine c6.mono ?_); rintro e w7 ⟨rfl, R7, D7, k7⟩; have b7 := k7.far HB6.out (by decide) (by decide); obtain ⟨y0, y1, y2⟩ := tag_cells b7; have HB7 := Lib.hid b7; clear b7; have c7 := CF2.out _ _ D7))
              | (go_at_call 10; ((with_reducible refine c7.mono ?_); rintro e w8 ⟨rfl, hg8⟩; have b8 := (hg8.block _ (lt_of_block HB7.out) (by simp)).trans HB7.out; obtain ⟨y0, y1, y2⟩ := tag_cells b8; clear b8; have c8 := CD2.out _ _ (D7.later hg8)))
              | (go_at_call 20; ((with_reducible refine c8.mono ?_); rintro e w9 ⟨rfl, R9, D9, k9⟩)))
            go_ret
            exact ⟨rfl, D9.since⟩
      · have hen : ¬ (en : Int) = 0 := by omega
        have hen' : ((en : Int) != 0) = true := by simpa using hen
        go_enter Try.func4, Try.ntmps4
        go_wp2_with (first
          | (go_at_call 8; ((with_reducible refine (awake13 _).mono ?_); rintro e w1 ⟨rfl, hg1⟩; have b1 := (hg1.block _ (lt_of_block HB0.out) (by simp)).trans HB0.out; obtain ⟨y0, y1, y2⟩ := tag_cells b1; have HB1 := Lib.hid b1; clear b1; have g1 := grown_trans hg0 hg1))
          | (go_at_call 9; go_must ((with_reducible refine (HPL.out _ g1).mono ?_); rintro e w2 ⟨T, R, wv, pv, rfl, hD, hX, hne⟩; obtain ⟨⟨wa, wn, wc, rfl⟩, pa, pn, pc, rfl⟩ := hX.form; have ga := World.grownBy_alloc w2 (.cells #[.slice wa wn wc, .slice pa pn pc] 28) none; have D3 := (hD.later ga).from g1; have b2 := ((grown_trans hD.since ga).block _ (lt_of_block HB1.out) (by simp)).trans HB1.out; obtain ⟨y0, y1, y2⟩ := tag_cells b2; clear b2; have c3 := dput_c D3 HS.out HO.out; rw [HEN.out] at c3))
          | (go_at_call 19; go_must ((with_reducible refine c3.mono ?_); rintro e w4 ⟨rfl, R4, D4, k4⟩)))
        go_ret
        exact ⟨rfl, D4.since⟩
theorem walk {w : World} {la lk : Option Addr} {n c m cm : Nat} {X Y : Nat → Bool} {S Q : Nat → ByteArray} {O P : Nat → Nat} (_ : n ≤ c) (hn : n ≤ maxLen) (hp : NamesAt w la n X S O) (x : Bool) (s : ByteArray) (o : Nat) (hs : s.size ≤ maxLen) (ho : o < 18446744073709551616) (_ : m ≤ cm) (hm : m ≤ maxLen) (hpk : NamesAt w lk m Y Q P) :
    Calls Try.prog 4 #[.slice la n c, .agg #[.bool x, .string s, .int .u64 (o : Nat)], .slice lk m cm] w fun e w' => e = .returned (.bool true) ∧ Below w.heap.size w w' :=
  (core hp hn hpk hm hs ho).mono fun e w' ⟨h1, h2⟩ => ⟨h1, grown_below h2⟩
theorem laidOut : laidOutB Try.prog = true := by kernel_rfl
/-! ### The row's step: the guide's frame -/
theorem own : ownKnob Try.prog.godebug = none := by kernel_rfl
set_option maxRecDepth 100000 in
theorem lifted (os : Os) (started : os.Started) (H : Type) (enc : TypeId × Value → H) :
    ReturnsInHanded {} Try.checked os 4 .any (Rows.dirKeepsSpec.pre6 enc Try.prog Try.f4 Rows.dirKeepsRow.domain false) (Rows.dirKeepsSpec.post enc Try.prog Try.f4 false true false false) := by
  refine returnsInHanded_of_change (C := Try.checked) own started (by kernel_rfl) Try.func4
    (ChangeSpec.witness6 (enc := enc) (C := Try.checked) false ⟨#[], #[.slice none 0 0, .agg #[.bool false, .string ByteArray.empty, .int .u64 0], .slice none 0 0], []⟩ 8 (by kernel_rfl) (by kernel_rfl) (by kernel_rfl) (by kernel_rfl)) ?_
  intro W base args ds gs before hval0 hW hcnd _
  have hval : ∀ (j : Nat) t v, Try.f4.params[j]? = some t → args[j]? = some v → Value.okWide Try.prog W .any base t v := hval0
  have hW' := hW
  obtain ⟨p, q, hA0, hV, rfl, hfz, hnd⟩ := hW
  have hA : DataW.TrodAll enc Try.prog W 0 (fun _ => true) true Try.f4.params.toList args.toList ds p := hA0
  rw [Try.params4] at hA hval
  obtain ⟨v0, vs0, d0, ds0, p0, q0, hargs, rfl, rfl, h0, r0⟩ := trodAll_cons hA
  obtain ⟨v1, vs1, d1, ds1, p1, q1, rfl, rfl, rfl, h1, r1⟩ := trodAll_cons r0
  obtain ⟨v2, vs2, d2, ds2, p2, q2, rfl, rfl, rfl, h2, r2⟩ := trodAll_cons r1
  obtain ⟨rfl, rfl, rfl⟩ := trodAll_nil r2
  obtain rfl : args = #[v0, v1, v2] := by cases args; simp_all
  obtain ⟨rfl, rfl⟩ := trodVars_none hV
  have lt0 : ∀ x ∈ p0, x.block < W.heap.size := by obtain ⟨m, hm⟩ := h0; exact DataW.trod_lt m _ _ _ hm
  obtain ⟨la0, n0, c0, X0, S0, O0, rfl, hc0, hn0, hp0⟩ := open_names (hval 0 23 v0 rfl rfl) h0
  have lt1 : ∀ x ∈ p1, x.block < W.heap.size := by obtain ⟨m, hm⟩ := h1; exact DataW.trod_lt m _ _ _ hm
  obtain ⟨x1, s1, o1, rfl, hs1, ho1⟩ := open_deed13 (hval 1 47 v1 rfl rfl) h1
  have lt2 : ∀ x ∈ p2, x.block < W.heap.size := by obtain ⟨m, hm⟩ := h2; exact DataW.trod_lt m _ _ _ hm
  obtain ⟨la2, n2, c2, X2, S2, O2, rfl, hc2, hn2, hp2⟩ := open_names (hval 2 23 v2 rfl rfl) h2
  clear hA0 hval0
  refine (walk hc0 hn0 hp0 x1 s1 o1 hs1 ho1 hc2 hn2 hp2).mono fun e W' ⟨he, bel⟩ => ?_
  subst he
  exact ⟨_, rfl, _, _, _, [], _, [], hW', trodAll_mk1 (shut_bool Try.underlying4 _), (trodAll_cons_mk (Below.trod laidOut (by kernel_rfl) (of_decide_eq_true (by kernel_rfl)) h0 bel lt0) (trodAll_cons_mk (Below.trod laidOut (by kernel_rfl) (of_decide_eq_true (by kernel_rfl)) h1 bel lt1) (trodAll_cons_mk (Below.trod laidOut (by kernel_rfl) (of_decide_eq_true (by kernel_rfl)) h2 bel lt2) trodAll_mk0))), rfl, bel.frame _, fun h => by cases h⟩

theorem over : Rows.dirKeepsRow.holds Try.pinned (OpenSpec.ofChange Rows.dirKeepsSpec) :=
  OpenClaim.holds_of_wide 4 Try.f4 rfl rfl rfl rfl rfl rfl rfl ⟨rfl, rfl, rfl, rfl, rfl⟩ rfl rfl rfl rfl rfl (by kernel_rfl) Try.func4 (by kernel_rfl)
    (of_decide_eq_true (by kernel_rfl)) (by unfold Func.isWrapper; first | (rw [if_pos (by decide +kernel)]; kernel_rfl) | (rw [if_neg (by decide +kernel)]; exact ⟨rfl, rfl⟩))
    (fun os started H enc _ => lifted os started H enc)

theorem proved : Rows.DirKeepsSaid :=
  over
#print axioms proved


end Go.Proofs.Ytkkkgikmeiocaaa.dirKeeps
