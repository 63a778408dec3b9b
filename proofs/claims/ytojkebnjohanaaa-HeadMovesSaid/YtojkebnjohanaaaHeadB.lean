/-
  Package head: the contracts of Size, Root, Resize, Plant and Check.
  Conditions: the Tx is nobody's, or stands in memory; the numbers are of 64 bits.
-/
import Derived.Test.YtojkebnjohanaaaHeadA
import Derived.Test.YtojkebnjohanaaaTxC
import Derived.Shelf.RegionOpen
import Derived.Deep.QuietTactic
import Derived.BigQuiet
import Derived.Deep.LoopGhost
import Derived.Deep.RegionHeld3
namespace Go.Proofs.Ytojkebnjohanaaa
open Go.RowKit
set_option linter.unusedVariables false
set_option linter.unusedSimpArgs false

section
variable {w : World} {T M : Nat} {R : Option Nat} {B D : Nat} {ws : List Nat} {l : List (Nat × Nat)}
theorem hsize_any (h : Thinks w T M R B D ws l) : Calls Try.prog 27 #[.pointer (some ⟨T, 0, none⟩)] w fun e w' => e = .returned (.int .u64 (txSee ws l 16 : Nat)) ∧ w.grownBy w' none := by
  have hc : Calls Try.prog 24 #[.pointer (some ⟨T, 0, none⟩), .int .u64 16] w _ := txload_any h 16 (by decide)
  go_enter Try.func27, Try.ntmps27
  go_wp2_with (go_at_call 24; (with_reducible refine hc.mono ?_); rintro e w1 ⟨rfl, hg1⟩)
  go_ret
  exact ⟨rfl, hg1⟩
theorem hroot_any (h : Thinks w T M R B D ws l) : Calls Try.prog 28 #[.pointer (some ⟨T, 0, none⟩)] w fun e w' => e = .returned (.int .u64 (txSee ws l 32 : Nat)) ∧ w.grownBy w' none := by
  have hc : Calls Try.prog 24 #[.pointer (some ⟨T, 0, none⟩), .int .u64 32] w _ := txload_any h 32 (by decide)
  go_enter Try.func28, Try.ntmps28
  go_wp2_with (go_at_call 24; (with_reducible refine hc.mono ?_); rintro e w1 ⟨rfl, hg1⟩)
  go_ret
  exact ⟨rfl, hg1⟩
theorem hplant_any (h : Thinks w T M R B D ws l) (off : Nat) (ho : off < 18446744073709551616) : Calls Try.prog 26 #[.pointer (some ⟨T, 0, none⟩), .int .u64 off] w fun e w' => e = .returned (.tuple #[]) ∧ Thought w T M R B D ws (txStore ws l 32 off) w' := by
  have hc : Calls Try.prog 20 #[.pointer (some ⟨T, 0, none⟩), .int .u64 32, .int .u64 off] w _ := txstore_any h 32 off (by decide) ho
  go_enter Try.func26, Try.ntmps26
  go_wp2_with (go_at_call 20; (with_reducible refine hc.mono ?_); rintro e w1 ⟨rfl, ht1⟩)
  go_end0
  exact ⟨rfl, ht1⟩
set_option maxHeartbeats 1000000 in
theorem hresize_any (h : Thinks w T M R B D ws l) (n : Nat) (hn : n < 18446744073709551616) : Calls Try.prog 25 #[.pointer (some ⟨T, 0, none⟩), .int .u64 n] w fun e w' => e = .returned (.tuple #[]) ∧ Thought w T M R B D ws (txStore ws (txStore ws l 16 n) 40 (sumN n)) w' := by
  have hc : Calls Try.prog 20 #[.pointer (some ⟨T, 0, none⟩), .int .u64 16, .int .u64 n] w _ := txstore_any h 16 n (by decide) hn
  have hs := fun w => hsum_any n hn w
  have hc2 : ∀ {w1 : World} {R1 : Option Nat} (h1 : Thinks w1 T M R1 B D ws (txStore ws l 16 n)), Calls Try.prog 20 #[.pointer (some ⟨T, 0, none⟩), .int .u64 40, .int .u64 (sumN n : Nat)] w1 _ := fun h1 => txstore_any h1 40 (sumN n) (by decide) (sumN_lt n)
  go_enter Try.func25, Try.ntmps25
  go_wp2_with (first | (go_at_call 20; (with_reducible refine hc.mono ?_); rintro e w1 ⟨rfl, R1, ht1, hq1, hr1⟩) | (go_at_call 31; (with_reducible refine (hs _).mono ?_); rintro e w1 ⟨rfl, rfl⟩) | (go_at_call 20; (with_reducible refine (hc2 ht1).mono ?_); rintro e w2 ⟨rfl, ht2⟩))
  go_end0
  exact ⟨rfl, Thought.trans hq1 hr1 ht2⟩
end
theorem hsize_nil (w : World) : Calls Try.prog 27 #[.pointer none] w fun e w' => e = .returned (.int .u64 0) ∧ w = w' := by
  have hc : Calls Try.prog 24 #[.pointer none, .int .u64 16] w _ := txload_nil 16 w
  go_enter Try.func27, Try.ntmps27
  go_wp2_with (go_at_call 24; (with_reducible refine hc.mono ?_); rintro e w1 ⟨rfl, rfl⟩)
  go_ret
  exact ⟨rfl, rfl⟩
theorem hroot_nil (w : World) : Calls Try.prog 28 #[.pointer none] w fun e w' => e = .returned (.int .u64 0) ∧ w = w' := by
  have hc : Calls Try.prog 24 #[.pointer none, .int .u64 32] w _ := txload_nil 32 w
  go_enter Try.func28, Try.ntmps28
  go_wp2_with (go_at_call 24; (with_reducible refine hc.mono ?_); rintro e w1 ⟨rfl, rfl⟩)
  go_ret
  exact ⟨rfl, rfl⟩
theorem hplant_nil (off : Nat) (w : World) : Calls Try.prog 26 #[.pointer none, .int .u64 off] w fun e w' => e = .returned (.tuple #[]) ∧ w = w' := by
  have hc : Calls Try.prog 20 #[.pointer none, .int .u64 32, .int .u64 off] w _ := txstore_nil 32 off w
  go_enter Try.func26, Try.ntmps26
  go_wp2_with (go_at_call 20; (with_reducible refine hc.mono ?_); rintro e w1 ⟨rfl, rfl⟩)
  go_end0
  exact ⟨rfl, rfl⟩
theorem hresize_nil (n : Nat) (hn : n < 18446744073709551616) (w : World) : Calls Try.prog 25 #[.pointer none, .int .u64 n] w fun e w' => e = .returned (.tuple #[]) ∧ w = w' := by
  have hc : Calls Try.prog 20 #[.pointer none, .int .u64 16, .int .u64 n] w _ := txstore_nil 16 n w
  have hc2 : Calls Try.prog 20 #[.pointer none, .int .u64 40, .int .u64 (sumN n : Nat)] w _ := txstore_nil 40 (sumN n) w
  have hs := hsum_any n hn w
  go_enter Try.func25, Try.ntmps25
  go_wp2_with (first | (go_at_call 20; (with_reducible refine hc.mono ?_); rintro e w1 ⟨rfl, rfl⟩) | (go_at_call 31; (with_reducible refine hs.mono ?_); rintro e w1 ⟨rfl, rfl⟩) | (go_at_call 20; (with_reducible refine hc2.mono ?_); rintro e w1 ⟨rfl, rfl⟩))
  go_end0
  exact ⟨rfl, rfl⟩
theorem hcheck_nil (w : World) : Calls Try.prog 21 #[.pointer none] w fun e w' => e = .returned (.int .i64 12) ∧ w.grownBy w' none := by
  have hc := hsize_nil w
  have hz : ∀ w, Calls Try.prog 43 #[.pointer none] w _ := fun w => txsize_nil w
  have hf : ∀ w, Calls Try.prog 32 #[.int .u64 0, .int .u64 0] w _ := fun w => fits_any 0 0 w
  rw [show decide (fitsP 0 0) = false by decide] at hf
  go_enter Try.func21, Try.ntmps21
  go_wp2_with (first | (go_at_call 27; (with_reducible refine hc.mono ?_); rintro e w1 ⟨rfl, rfl⟩) | (go_at_call 43; (with_reducible refine (hz _).mono ?_); rintro e w1 ⟨rfl, rfl⟩) | (go_at_call 32; (with_reducible refine (hf _).mono ?_); rintro e w1 ⟨rfl, rfl⟩))
  go_ret
  exact ⟨rfl, grown_refl _ _⟩
/-- what Check tells -/
def chkP (ws : List Nat) (l : List (Nat × Nat)) : Prop := fitsP (txSee ws l 16) (8 * ws.length) ∧ txSee ws l 0 = 7161130718081542961 ∧ txSee ws l 8 = 1 ∧ txSee ws l 40 = sumN (txSee ws l 16)
instance (ws : List Nat) (l : List (Nat × Nat)) : Decidable (chkP ws l) := by unfold chkP; infer_instance
def chkN (ws : List Nat) (l : List (Nat × Nat)) : Nat := if chkP ws l then 0 else 12
section
variable {w : World} {T M : Nat} {R : Option Nat} {B D : Nat} {ws : List Nat} {l : List (Nat × Nat)}
theorem hcheck_any (h : Thinks w T M R B D ws l) : Calls Try.prog 21 #[.pointer (some ⟨T, 0, none⟩)] w fun e w' => e = .returned (.int .i64 (chkN ws l : Nat)) ∧ w.grownBy w' none := by
  have hok : ∀ off, txSee ws l off < 18446744073709551616 := fun off => txSee_lt h.seg.words h.ok off
  have hc := fun (w1 : World) (hg : w.grownBy w1 none) => hsize_any (h.later hg)
  have hz := fun (w1 : World) (hg : w.grownBy w1 none) => txsize_any (h.later hg)
  have hf := fun w => fits_any (txSee ws l 16) (8 * ws.length) w
  have hm := fun w => must_any (txSee ws l 16) (hok _) w
  have hl0 : ∀ (w1 : World) (hg : w.grownBy w1 none), Calls Try.prog 24 #[.pointer (some ⟨T, 0, none⟩), .int .u64 0] w1 _ := fun w1 hg => txload_any (h.later hg) 0 (by decide)
  have hl1 : ∀ (w1 : World) (hg : w.grownBy w1 none), Calls Try.prog 24 #[.pointer (some ⟨T, 0, none⟩), .int .u64 8] w1 _ := fun w1 hg => txload_any (h.later hg) 8 (by decide)
  have hl2 : ∀ (w1 : World) (hg : w.grownBy w1 none), Calls Try.prog 24 #[.pointer (some ⟨T, 0, none⟩), .int .u64 16] w1 _ := fun w1 hg => txload_any (h.later hg) 16 (by decide)
  have hl3 : ∀ (w1 : World) (hg : w.grownBy w1 none), Calls Try.prog 24 #[.pointer (some ⟨T, 0, none⟩), .int .u64 40] w1 _ := fun w1 hg => txload_any (h.later hg) 40 (by decide)
  have hchk : chkN ws l = if chkP ws l then 0 else 12 := rfl
  unfold chkP at hchk
  have hx2 := hok 16
  obtain ⟨x0, e0⟩ : ∃ x, txSee ws l 0 = x := ⟨_, rfl⟩
  obtain ⟨x1, e1⟩ : ∃ x, txSee ws l 8 = x := ⟨_, rfl⟩
  obtain ⟨x2, e2⟩ : ∃ x, txSee ws l 16 = x := ⟨_, rfl⟩
  obtain ⟨x3, e3⟩ : ∃ x, txSee ws l 40 = x := ⟨_, rfl⟩
  obtain ⟨al, ea⟩ : ∃ x, 8 * ws.length = x := ⟨_, rfl⟩
  obtain ⟨sm, es⟩ : ∃ x, sumN x2 = x := ⟨_, rfl⟩
  obtain ⟨c, ec⟩ : ∃ x, chkN ws l = x := ⟨_, rfl⟩
  simp only [e0, e1, e2, e3, es, ec, ea] at hc hz hf hm hl0 hl1 hl2 hl3 hchk hx2 ⊢
  clear e0 e1 e2 e3 es ec ea hok
  have i0 : ∀ w : World, (Instr.index 59 (.agg #[.int .u64 0, .int .u64 7161130718081542961, .int .u64 8, .int .u64 1, .int .u64 16, .int .u64 x2, .int .u64 40, .int .u64 sm]) (.int .i64 0)).run Try.prog w = .ok (.agg #[.int .u64 0, .int .u64 7161130718081542961]) w := fun _ => by kernel_rfl
  have i1 : ∀ w : World, (Instr.index 59 (.agg #[.int .u64 0, .int .u64 7161130718081542961, .int .u64 8, .int .u64 1, .int .u64 16, .int .u64 x2, .int .u64 40, .int .u64 sm]) (.int .i64 1)).run Try.prog w = .ok (.agg #[.int .u64 8, .int .u64 1]) w := fun _ => by kernel_rfl
  have i2 : ∀ w : World, (Instr.index 59 (.agg #[.int .u64 0, .int .u64 7161130718081542961, .int .u64 8, .int .u64 1, .int .u64 16, .int .u64 x2, .int .u64 40, .int .u64 sm]) (.int .i64 2)).run Try.prog w = .ok (.agg #[.int .u64 16, .int .u64 x2]) w := fun _ => by kernel_rfl
  have i3 : ∀ w : World, (Instr.index 59 (.agg #[.int .u64 0, .int .u64 7161130718081542961, .int .u64 8, .int .u64 1, .int .u64 16, .int .u64 x2, .int .u64 40, .int .u64 sm]) (.int .i64 3)).run Try.prog w = .ok (.agg #[.int .u64 40, .int .u64 sm]) w := fun _ => by kernel_rfl
  by_cases hfit : fitsP x2 al
  · rw [decide_eq_true hfit] at hf
    go_enter Try.func21, Try.ntmps21
    go_wp2_with (first | (go_at_call 27; (with_reducible refine (hc _ (grown_refl _ _)).mono ?_); rintro e w1 ⟨rfl, hg1⟩) | (go_at_call 43; (with_reducible refine (hz _ hg1).mono ?_); rintro e w2 ⟨rfl, rfl⟩) | (go_at_call 32; (with_reducible refine (hf _).mono ?_); rintro e w2 ⟨rfl, rfl⟩) | (go_at_call 35; (with_reducible refine (hm _).mono ?_); rintro e w3 ⟨rfl, hg3⟩))
    go_loopw [15] (fun i wr => ∃ k : Nat, k ≤ 4 ∧ i = .int .i64 k ∧ w.grownBy wr none ∧ (0 < k → x0 = 7161130718081542961) ∧ (1 < k → x1 = 1) ∧ (3 < k → x3 = sm)) (fun i _ => 4 - (intOf i).toNat)
    case atStart => exact ⟨0, by omega, rfl, grown_trans hg1 hg3, by omega, by omega, by omega⟩
    case round =>
      obtain ⟨k, hk, rfl, hg, k0, k1, k3⟩ := hrel
      clear hc hz hf hm hg1 hg3
      rcases k with _ | _ | _ | _ | k
      · go_wp2
        have HA : wr.grownBy (wr.alloc (.cells #[.int .u64 0, .int .u64 7161130718081542961] 38)) none := World.grownBy_alloc _ _ _
        have HG : (wr.alloc (.cells #[.int .u64 0, .int .u64 7161130718081542961] 38)).grownBy (wr.alloc (.cells #[.int .u64 0, .int .u64 7161130718081542961] 38)).drew none := grown_drew (grown_refl _ _)
        obtain ⟨m0, m1⟩ := pair_new HG
        go_region_held3 (fun w' => w'.cell? ⟨wr.heap.size, 0, none⟩ = some (.int .u64 0) ∧ w'.cell? ⟨wr.heap.size, 1, none⟩ = some (.int .u64 7161130718081542961)) (go_keep) (first | (go_at_call 24; ((with_reducible refine (hl0 _ (grown_trans (grown_trans hg HA) HG)).mono ?_); rintro e w9 ⟨rfl, hg9⟩; replace HG := grown_trans HG hg9; obtain ⟨m0, m1⟩ := pair_new HG)))
        rcases Nat.decEq x0 7161130718081542961 with hne | heq
        · have e2 : ((x0 : Int) != (7161130718081542961 : Int)) = true := by rw [bne_iff_ne]; omega
          rw [if_neg (fun h => hne (by omega))] at hchk
          subst hchk
          go_wp2
          go_ret
          exact ⟨rfl, grown_trans (grown_trans hg HA) HG⟩
        · have e2 : ((x0 : Int) != (7161130718081542961 : Int)) = false := by rw [bne_eq_false_iff_eq]; omega
          go_wp2
          exact ⟨⟨1, by omega, rfl, grown_trans (grown_trans hg HA) HG, by omega, by omega, by omega⟩, by simp [intOf]⟩
      · go_wp2
        have HA : wr.grownBy (wr.alloc (.cells #[.int .u64 8, .int .u64 1] 38)) none := World.grownBy_alloc _ _ _
        have HG : (wr.alloc (.cells #[.int .u64 8, .int .u64 1] 38)).grownBy (wr.alloc (.cells #[.int .u64 8, .int .u64 1] 38)).drew none := grown_drew (grown_refl _ _)
        obtain ⟨m0, m1⟩ := pair_new HG
        go_region_held3 (fun w' => w'.cell? ⟨wr.heap.size, 0, none⟩ = some (.int .u64 8) ∧ w'.cell? ⟨wr.heap.size, 1, none⟩ = some (.int .u64 1)) (go_keep) (first | (go_at_call 24; ((with_reducible refine (hl1 _ (grown_trans (grown_trans hg HA) HG)).mono ?_); rintro e w9 ⟨rfl, hg9⟩; replace HG := grown_trans HG hg9; obtain ⟨m0, m1⟩ := pair_new HG)))
        rcases Nat.decEq x1 1 with hne | heq
        · have e2 : ((x1 : Int) != (1 : Int)) = true := by rw [bne_iff_ne]; omega
          rw [if_neg (fun h => hne (by omega))] at hchk
          subst hchk
          go_wp2
          go_ret
          exact ⟨rfl, grown_trans (grown_trans hg HA) HG⟩
        · have e2 : ((x1 : Int) != (1 : Int)) = false := by rw [bne_eq_false_iff_eq]; omega
          go_wp2
          exact ⟨⟨2, by omega, rfl, grown_trans (grown_trans hg HA) HG, by omega, by omega, by omega⟩, by simp [intOf]⟩
      · go_wp2
        have HA : wr.grownBy (wr.alloc (.cells #[.int .u64 16, .int .u64 x2] 38)) none := World.grownBy_alloc _ _ _
        have HG : (wr.alloc (.cells #[.int .u64 16, .int .u64 x2] 38)).grownBy (wr.alloc (.cells #[.int .u64 16, .int .u64 x2] 38)).drew none := grown_drew (grown_refl _ _)
        obtain ⟨m0, m1⟩ := pair_new HG
        go_region_held3 (fun w' => w'.cell? ⟨wr.heap.size, 0, none⟩ = some (.int .u64 16) ∧ w'.cell? ⟨wr.heap.size, 1, none⟩ = some (.int .u64 x2)) (go_keep) (first | (go_at_call 24; ((with_reducible refine (hl2 _ (grown_trans (grown_trans hg HA) HG)).mono ?_); rintro e w9 ⟨rfl, hg9⟩; replace HG := grown_trans HG hg9; obtain ⟨m0, m1⟩ := pair_new HG)))
        have e2 : ((x2 : Int) != (x2 : Int)) = false := by simp
        go_wp2
        exact ⟨⟨3, by omega, rfl, grown_trans (grown_trans hg HA) HG, by omega, by omega, by omega⟩, by simp [intOf]⟩
      · go_wp2
        have HA : wr.grownBy (wr.alloc (.cells #[.int .u64 40, .int .u64 sm] 38)) none := World.grownBy_alloc _ _ _
        have HG : (wr.alloc (.cells #[.int .u64 40, .int .u64 sm] 38)).grownBy (wr.alloc (.cells #[.int .u64 40, .int .u64 sm] 38)).drew none := grown_drew (grown_refl _ _)
        obtain ⟨m0, m1⟩ := pair_new HG
        go_region_held3 (fun w' => w'.cell? ⟨wr.heap.size, 0, none⟩ = some (.int .u64 40) ∧ w'.cell? ⟨wr.heap.size, 1, none⟩ = some (.int .u64 sm)) (go_keep) (first | (go_at_call 24; ((with_reducible refine (hl3 _ (grown_trans (grown_trans hg HA) HG)).mono ?_); rintro e w9 ⟨rfl, hg9⟩; replace HG := grown_trans HG hg9; obtain ⟨m0, m1⟩ := pair_new HG)))
        rcases Nat.decEq x3 sm with hne | heq
        · have e2 : ((x3 : Int) != (sm : Int)) = true := by rw [bne_iff_ne]; omega
          rw [if_neg (fun h => hne (by omega))] at hchk
          subst hchk
          go_wp2
          go_ret
          exact ⟨rfl, grown_trans (grown_trans hg HA) HG⟩
        · have e2 : ((x3 : Int) != (sm : Int)) = false := by rw [bne_eq_false_iff_eq]; omega
          go_wp2
          exact ⟨⟨4, by omega, rfl, grown_trans (grown_trans hg HA) HG, by omega, by omega, by omega⟩, by simp [intOf]⟩
      · obtain rfl : k = 0 := by omega
        rw [if_pos ⟨hfit, k0 (by omega), k1 (by omega), k3 (by omega)⟩] at hchk
        subst hchk
        go_wp2
        go_ret
        exact ⟨rfl, hg⟩
  · rw [decide_eq_false hfit] at hf
    rw [if_neg (fun h => hfit h.1)] at hchk
    subst hchk
    go_enter Try.func21, Try.ntmps21
    go_wp2_with (first | (go_at_call 27; (with_reducible refine (hc _ (grown_refl _ _)).mono ?_); rintro e w1 ⟨rfl, hg1⟩) | (go_at_call 43; (with_reducible refine (hz _ hg1).mono ?_); rintro e w2 ⟨rfl, rfl⟩) | (go_at_call 32; (with_reducible refine (hf _).mono ?_); rintro e w2 ⟨rfl, rfl⟩))
    go_ret
    exact ⟨rfl, hg1⟩
end
end Go.Proofs.Ytojkebnjohanaaa
