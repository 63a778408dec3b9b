/-
  Texts of one layer, one behind the other: memory, contracts of the functions, and what follows of them.
  Conditions: as each theorem says.
-/
import Derived.Test.YtcngmkfpbcemjaaGreatLHea
import Derived.Test.YtcngmkfpbcemjaaGreatLTxb
import Derived.Shelf.RegionOpen
import Derived.Deep.QuietTactic
import Derived.BigQuiet
import Derived.Deep.LoopGhost
import Derived.Deep.RegionHeld3
import Derived.Test.YtcngmkfpbcemjaaGreatLTxc
set_option linter.unusedVariables false
set_option linter.unusedSimpArgs false
namespace Go.Proofs.YtcngmkfpbcemjaaGreat
open Go.RowKit
section
variable {w : World} {T M : Nat} {R : Option Nat} {B D : Nat} {ws : List Nat} {l : List (Nat × Nat)}
theorem hsize_any (h : Thinks w T M R B D ws l) : Calls Tryz.prog 28 #[.pointer (some ⟨T, 0, none⟩)] w fun e w' => e = .returned (.int .u64 (txSee ws l 16 : Nat)) ∧ w.grownBy w' none := by
  have hc : Calls Tryz.prog 23 #[.pointer (some ⟨T, 0, none⟩), .int .u64 16] w _ := txload_any h 16 (by decide)
  go_enter Tryz.func28, Tryz.ntmps28
  go_wp2_with (go_at_call 23; (with_reducible refine hc.mono ?_); rintro e w1 ⟨rfl, hg1⟩)
  go_ret
  exact ⟨rfl, hg1⟩
theorem hroot_any (h : Thinks w T M R B D ws l) : Calls Tryz.prog 64 #[.pointer (some ⟨T, 0, none⟩)] w fun e w' => e = .returned (.int .u64 (txSee ws l 32 : Nat)) ∧ w.grownBy w' none := by
  have hc : Calls Tryz.prog 23 #[.pointer (some ⟨T, 0, none⟩), .int .u64 32] w _ := txload_any h 32 (by decide)
  go_enter Tryz.func64, Tryz.ntmps64
  go_wp2_with (go_at_call 23; (with_reducible refine hc.mono ?_); rintro e w1 ⟨rfl, hg1⟩)
  go_ret
  exact ⟨rfl, hg1⟩
end
theorem hsize_nil (w : World) : Calls Tryz.prog 28 #[.pointer none] w fun e w' => e = .returned (.int .u64 0) ∧ w = w' := by
  have hc : Calls Tryz.prog 23 #[.pointer none, .int .u64 16] w _ := txload_nil 16 w
  go_enter Tryz.func28, Tryz.ntmps28
  go_wp2_with (go_at_call 23; (with_reducible refine hc.mono ?_); rintro e w1 ⟨rfl, rfl⟩)
  go_ret
  exact ⟨rfl, rfl⟩
theorem hcheck_nil (w : World) : Calls Tryz.prog 49 #[.pointer none] w fun e w' => e = .returned (.int .i64 12) ∧ w.grownBy w' none := by
  have hc := hsize_nil w
  have hz : ∀ w, Calls Tryz.prog 86 #[.pointer none] w _ := fun w => txsize_nil w
  have hf : ∀ w, Calls Tryz.prog 85 #[.int .u64 0, .int .u64 0] w _ := fun w => fits_any 0 0 w
  rw [show decide (fitsP 0 0) = false by decide] at hf
  go_enter Tryz.func49, Tryz.ntmps49
  go_wp2_with (first | (go_at_call 28; (with_reducible refine hc.mono ?_); rintro e w1 ⟨rfl, rfl⟩) | (go_at_call 86; (with_reducible refine (hz _).mono ?_); rintro e w1 ⟨rfl, rfl⟩) | (go_at_call 85; (with_reducible refine (hf _).mono ?_); rintro e w1 ⟨rfl, rfl⟩))
  go_ret
  exact ⟨rfl, grown_refl _ _⟩
def chkP (ws : List Nat) (l : List (Nat × Nat)) : Prop := fitsP (txSee ws l 16) (8 * ws.length) ∧ txSee ws l 0 = 7161130718081542961 ∧ txSee ws l 8 = 1 ∧ txSee ws l 40 = sumN (txSee ws l 16)
instance (ws : List Nat) (l : List (Nat × Nat)) : Decidable (chkP ws l) := by unfold chkP; infer_instance
def chkN (ws : List Nat) (l : List (Nat × Nat)) : Nat := if chkP ws l then 0 else 12
section
variable {w : World} {T M : Nat} {R : Option Nat} {B D : Nat} {ws : List Nat} {l : List (Nat × Nat)}
theorem hcheck_any (h : Thinks w T M R B D ws l) : Calls Tryz.prog 49 #[.pointer (some ⟨T, 0, none⟩)] w fun e w' => e = .returned (.int .i64 (chkN ws l : Nat)) ∧ w.grownBy w' none := by
  have hok : ∀ off, txSee ws l off < 18446744073709551616 := fun off => txSee_lt h.seg.words h.ok off
  have hc := fun (w1 : World) (hg : w.grownBy w1 none) => hsize_any (h.later hg)
  have hz := fun (w1 : World) (hg : w.grownBy w1 none) => txsize_any (h.later hg)
  have hf := fun w => fits_any (txSee ws l 16) (8 * ws.length) w
  have hm := fun w => must_any (txSee ws l 16) (hok _) w
  have hl0 : ∀ (w1 : World) (hg : w.grownBy w1 none), Calls Tryz.prog 23 #[.pointer (some ⟨T, 0, none⟩), .int .u64 0] w1 _ := fun w1 hg => txload_any (h.later hg) 0 (by decide)
  have hl1 : ∀ (w1 : World) (hg : w.grownBy w1 none), Calls Tryz.prog 23 #[.pointer (some ⟨T, 0, none⟩), .int .u64 8] w1 _ := fun w1 hg => txload_any (h.later hg) 8 (by decide)
  have hl2 : ∀ (w1 : World) (hg : w.grownBy w1 none), Calls Tryz.prog 23 #[.pointer (some ⟨T, 0, none⟩), .int .u64 16] w1 _ := fun w1 hg => txload_any (h.later hg) 16 (by decide)
  have hl3 : ∀ (w1 : World) (hg : w.grownBy w1 none), Calls Tryz.prog 23 #[.pointer (some ⟨T, 0, none⟩), .int .u64 40] w1 _ := fun w1 hg => txload_any (h.later hg) 40 (by decide)
  have hchk : chkN ws l = if chkP ws l then 0 else 12 := rfl
  unfold chkP at hchk
  have hx2 := hok 16
  obtain ⟨x0, e0⟩ : ∃ x, txSee ws l 0 = x := ⟨_, rfl⟩
  obtain ⟨x1, e1⟩ : ∃ x, txSee ws l 8 = x := ⟨_, rfl⟩
  obtain ⟨x2, e2⟩ : ∃ x, txSee ws l 16 = x := ⟨_, rfl⟩
  obtain ⟨x3, e3⟩ : ∃ x, txSee ws l 40 = x := ⟨_, rfl⟩
  obtain ⟨al, ea⟩ : ∃ x, 8 * ws.length = x := ⟨_, rfl⟩
  obtain ⟨sm, es⟩ : ∃ x, sumN x2 = x := ⟨_, rfl⟩
  obtain ⟨c, ec⟩ : ∃ x, chkN ws l = x := ⟨_, rfl⟩
  simp only [e0, e1, e2, e3, es, ec, ea] at hc hz hf hm hl0 hl1 hl2 hl3 hchk hx2 ⊢
  clear e0 e1 e2 e3 es ec ea hok
  have i0 : ∀ w : World, (Instr.index 150 (.agg #[.int .u64 0, .int .u64 7161130718081542961, .int .u64 8, .int .u64 1, .int .u64 16, .int .u64 x2, .int .u64 40, .int .u64 sm]) (.int .i64 0)).run Tryz.prog w = .ok (.agg #[.int .u64 0, .int .u64 7161130718081542961]) w := fun _ => by kernel_rfl
  have i1 : ∀ w : World, (Instr.index 150 (.agg #[.int .u64 0, .int .u64 7161130718081542961, .int .u64 8, .int .u64 1, .int .u64 16, .int .u64 x2, .int .u64 40, .int .u64 sm]) (.int .i64 1)).run Tryz.prog w = .ok (.agg #[.int .u64 8, .int .u64 1]) w := fun _ => by kernel_rfl
  have i2 : ∀ w : World, (Instr.index 150 (.agg #[.int .u64 0, .int .u64 7161130718081542961, .int .u64 8, .int .u64 1, .int .u64 16, .int .u64 x2, .int .u64 40, .int .u64 sm]) (.int .i64 2)).run Tryz.prog w = .ok (.agg #[.int .u64 16, .int .u64 x2]) w := fun _ => by kernel_rfl
  have i3 : ∀ w : World, (Instr.index 150 (.agg #[.int .u64 0, .int .u64 7161130718081542961, .int .u64 8, .int .u64 1, .int .u64 16, .int .u64 x2, .int .u64 40, .int .u64 sm]) (.int .i64 3)).run Tryz.prog w = .ok (.agg #[.int .u64 40, .int .u64 sm]) w := fun _ => by kernel_rfl
  by_cases hfit : fitsP x2 al
  · rw [decide_eq_true hfit] at hf
    go_enter Tryz.func49, Tryz.ntmps49
    go_wp2_with (first | (go_at_call 28; (with_reducible refine (hc _ (grown_refl _ _)).mono ?_); rintro e w1 ⟨rfl, hg1⟩) | (go_at_call 86; (with_reducible refine (hz _ hg1).mono ?_); rintro e w2 ⟨rfl, rfl⟩) | (go_at_call 85; (with_reducible refine (hf _).mono ?_); rintro e w2 ⟨rfl, rfl⟩) | (go_at_call 87; (with_reducible refine (hm _).mono ?_); rintro e w3 ⟨rfl, hg3⟩))
    go_loopw [15] (fun i wr => ∃ k : Nat, k ≤ 4 ∧ i = .int .i64 k ∧ w.grownBy wr none ∧ (0 < k → x0 = 7161130718081542961) ∧ (1 < k → x1 = 1) ∧ (3 < k → x3 = sm)) (fun i _ => 4 - (intOf i).toNat)
    case atStart => exact ⟨0, by omega, rfl, grown_trans hg1 hg3, by omega, by omega, by omega⟩
    case round =>
      obtain ⟨k, hk, rfl, hg, k0, k1, k3⟩ := hrel
      clear hc hz hf hm hg1 hg3
      rcases k with _ | _ | _ | _ | k
      · go_wp2
        have HA : wr.grownBy (wr.alloc (.cells #[.int .u64 0, .int .u64 7161130718081542961] 117)) none := World.grownBy_alloc _ _ _
        have HG : (wr.alloc (.cells #[.int .u64 0, .int .u64 7161130718081542961] 117)).grownBy (wr.alloc (.cells #[.int .u64 0, .int .u64 7161130718081542961] 117)).drew none := grown_drew (grown_refl _ _)
        obtain ⟨m0, m1⟩ := pair_new HG
        go_region_held3 (fun w' => w'.cell? ⟨wr.heap.size, 0, none⟩ = some (.int .u64 0) ∧ w'.cell? ⟨wr.heap.size, 1, none⟩ = some (.int .u64 7161130718081542961)) (go_keep) (first | (go_at_call 23; ((with_reducible refine (hl0 _ (grown_trans (grown_trans hg HA) HG)).mono ?_); rintro e w9 ⟨rfl, hg9⟩; replace HG := grown_trans HG hg9; obtain ⟨m0, m1⟩ := pair_new HG)))
        rcases Nat.decEq x0 7161130718081542961 with hne | heq
        · have e2 : ((x0 : Int) != (7161130718081542961 : Int)) = true := by rw [bne_iff_ne]; omega
          rw [if_neg (fun h => hne (by omega))] at hchk
          subst hchk
          go_wp2
          go_ret
          exact ⟨rfl, grown_trans (grown_trans hg HA) HG⟩
        · have e2 : ((x0 : Int) != (7161130718081542961 : Int)) = false := by rw [bne_eq_false_iff_eq]; omega
          go_wp2
          exact ⟨⟨1, by omega, rfl, grown_trans (grown_trans hg HA) HG, by omega, by omega, by omega⟩, by simp [intOf]⟩
      · go_wp2
        have HA : wr.grownBy (wr.alloc (.cells #[.int .u64 8, .int .u64 1] 117)) none := World.grownBy_alloc _ _ _
        have HG : (wr.alloc (.cells #[.int .u64 8, .int .u64 1] 117)).grownBy (wr.alloc (.cells #[.int .u64 8, .int .u64 1] 117)).drew none := grown_drew (grown_refl _ _)
        obtain ⟨m0, m1⟩ := pair_new HG
        go_region_held3 (fun w' => w'.cell? ⟨wr.heap.size, 0, none⟩ = some (.int .u64 8) ∧ w'.cell? ⟨wr.heap.size, 1, none⟩ = some (.int .u64 1)) (go_keep) (first | (go_at_call 23; ((with_reducible refine (hl1 _ (grown_trans (grown_trans hg HA) HG)).mono ?_); rintro e w9 ⟨rfl, hg9⟩; replace HG := grown_trans HG hg9; obtain ⟨m0, m1⟩ := pair_new HG)))
        rcases Nat.decEq x1 1 with hne | heq
        · have e2 : ((x1 : Int) != (1 : Int)) = true := by rw [bne_iff_ne]; omega
          rw [if_neg (fun h => hne (by omega))] at hchk
          subst hchk
          go_wp2
          go_ret
          exact ⟨rfl, grown_trans (grown_trans hg HA) HG⟩
        · have e2 : ((x1 : Int) != (1 : Int)) = false := by rw [bne_eq_false_iff_eq]; omega
          go_wp2
          exact ⟨⟨2, by omega, rfl, grown_trans (grown_trans hg HA) HG, by omega, by omega, by omega⟩, by simp [intOf]⟩
      · go_wp2
        have HA : wr.grownBy (wr.alloc (.cells #[.int .u64 16, .int .u64 x2] 117)) none := World.grownBy_alloc _ _ _
        have HG : (wr.alloc (.cells #[.int .u64 16, .int .u64 x2] 117)).grownBy (wr.alloc (.cells #[.int .u64 16, .int .u64 x2] 117)).drew none := grown_drew (grown_refl _ _)
        obtain ⟨m0, m1⟩ := pair_new HG
        go_region_held3 (fun w' => w'.cell? ⟨wr.heap.size, 0, none⟩ = some (.int .u64 16) ∧ w'.cell? ⟨wr.heap.size, 1, none⟩ = some (.int .u64 x2)) (go_keep) (first | (go_at_call 23; ((with_reducible refine (hl2 _ (grown_trans (grown_trans hg HA) HG)).mono ?_); rintro e w9 ⟨rfl, hg9⟩; replace HG := grown_trans HG hg9; obtain ⟨m0, m1⟩ := pair_new HG)))
        have e2 : ((x2 : Int) != (x2 : Int)) = false := by simp
        go_wp2
        exact ⟨⟨3, by omega, rfl, grown_trans (grown_trans hg HA) HG, by omega, by omega, by omega⟩, by simp [intOf]⟩
      · go_wp2
        have HA : wr.grownBy (wr.alloc (.cells #[.int .u64 40, .int .u64 sm] 117)) none := World.grownBy_alloc _ _ _
        have HG : (wr.alloc (.cells #[.int .u64 40, .int .u64 sm] 117)).grownBy (wr.alloc (.cells #[.int .u64 40, .int .u64 sm] 117)).drew none := grown_drew (grown_refl _ _)
        obtain ⟨m0, m1⟩ := pair_new HG
        go_region_held3 (fun w' => w'.cell? ⟨wr.heap.size, 0, none⟩ = some (.int .u64 40) ∧ w'.cell? ⟨wr.heap.size, 1, none⟩ = some (.int .u64 sm)) (go_keep) (first | (go_at_call 23; ((with_reducible refine (hl3 _ (grown_trans (grown_trans hg HA) HG)).mono ?_); rintro e w9 ⟨rfl, hg9⟩; replace HG := grown_trans HG hg9; obtain ⟨m0, m1⟩ := pair_new HG)))
        rcases Nat.decEq x3 sm with hne | heq
        · have e2 : ((x3 : Int) != (sm : Int)) = true := by rw [bne_iff_ne]; omega
          rw [if_neg (fun h => hne (by omega))] at hchk
          subst hchk
          go_wp2
          go_ret
          exact ⟨rfl, grown_trans (grown_trans hg HA) HG⟩
        · have e2 : ((x3 : Int) != (sm : Int)) = false := by rw [bne_eq_false_iff_eq]; omega
          go_wp2
          exact ⟨⟨4, by omega, rfl, grown_trans (grown_trans hg HA) HG, by omega, by omega, by omega⟩, by simp [intOf]⟩
      · obtain rfl : k = 0 := by omega
        rw [if_pos ⟨hfit, k0 (by omega), k1 (by omega), k3 (by omega)⟩] at hchk
        subst hchk
        go_wp2
        go_ret
        exact ⟨rfl, hg⟩
  · rw [decide_eq_false hfit] at hf
    rw [if_neg (fun h => hfit h.1)] at hchk
    subst hchk
    go_enter Tryz.func49, Tryz.ntmps49
    go_wp2_with (first | (go_at_call 28; (with_reducible refine (hc _ (grown_refl _ _)).mono ?_); rintro e w1 ⟨rfl, hg1⟩) | (go_at_call 86; (with_reducible refine (hz _ hg1).mono ?_); rintro e w2 ⟨rfl, rfl⟩) | (go_at_call 85; (with_reducible refine (hf _).mono ?_); rintro e w2 ⟨rfl, rfl⟩))
    go_ret
    exact ⟨rfl, hg1⟩
end
end Go.Proofs.YtcngmkfpbcemjaaGreat
namespace Go.Proofs.YtcngmkfpbcemjaaGreat
open Go.RowKit
theorem fmtW_def (K n : Nat) : fmtW K n = put (put (put (put (put (put (put (List.replicate K 0) 0 7161130718081542961) 8 1) 16 n) 40 (sumN n)) 32 3776) 3776 (n - 3776)) (n - 8) (n - 3776) := rfl
theorem zeros_get (K j : Nat) : (List.replicate K 0).getD j 0 = 0 := by
  rw [List.getD_eq_getElem?_getD, List.getElem?_replicate]
  split <;> rfl
theorem getW_zeros (K off : Nat) : getW (List.replicate K 0) off = 0 := by
  unfold getW
  split
  · rw [List.getD_eq_getElem?_getD, List.getElem?_replicate]
    split <;> rfl
  · rfl
theorem getW_fmt {K n : Nat} (h : fitsP n (8 * K)) (off : Nat) : getW (fmtW K n) off = if off = n - 8 then n - 3776 else if off = 3776 then n - 3776 else if off = 32 then 3776 else if off = 40 then sumN n else if off = 16 then n else if off = 8 then 1 else if off = 0 then 7161130718081542961 else 0 := by
  obtain ⟨h1, h2, h3⟩ := h
  have st : ∀ {z : List Nat} (x : Nat), z.length = K → x % 8 = 0 → x < 3824 → stands z x := fun x hz hx hx2 => ⟨hx, by rw [hz]; omega⟩
  rw [fmtW_def]
  rw [getW_put' _ _ ⟨by omega, by simp only [put_len, List.length_replicate]; omega⟩]
  rw [getW_put' _ _ (st 3776 (by simp only [put_len, List.length_replicate]) (by decide) (by decide))]
  rw [getW_put' _ _ (st 32 (by simp only [put_len, List.length_replicate]) (by decide) (by decide))]
  rw [getW_put' _ _ (st 40 (by simp only [put_len, List.length_replicate]) (by decide) (by decide))]
  rw [getW_put' _ _ (st 16 (by simp only [put_len, List.length_replicate]) (by decide) (by decide))]
  rw [getW_put' _ _ (st 8 (by simp only [put_len, List.length_replicate]) (by decide) (by decide))]
  rw [getW_put' _ _ (st 0 (by simp only [List.length_replicate]) (by decide) (by decide)), getW_zeros]
def fmtS (K n : Nat) : List Nat := (((((((List.replicate K 0).set 0 7161130718081542961).set 1 1).set 2 n).set 4 3776).set 5 (sumN n)).set 472 (n - 3776)).set (n / 8 - 1) (n - 3776)
theorem put_set {ws : List Nat} {off : Nat} (q v : Nat) (h : off = 8 * q) (hl : q < ws.length) : put ws off v = ws.set q v := by
  subst h
  unfold put
  rw [if_pos ⟨by omega, by omega⟩, show 8 * q / 8 = q by omega]
theorem fmtS_eq {K n : Nat} (h : fitsP n (8 * K)) : fmtS K n = fmtW K n := by
  obtain ⟨h1, h2, h3⟩ := h
  rw [fmtW_def]
  unfold fmtS
  have hl : (List.replicate K 0).length = K := List.length_replicate
  generalize List.replicate K 0 = z at hl
  rw [put_set 0 _ rfl (by omega), put_set 1 _ rfl (by simp; omega), put_set 2 _ rfl (by simp; omega), put_set 5 _ rfl (by simp; omega), put_set 4 _ rfl (by simp; omega), put_set 472 _ rfl (by simp; omega), put_set (n / 8 - 1) _ (by omega) (by simp; omega), List.set_comm (i := 5) (j := 4) _ _ (by decide)]
theorem OwnW.set {w : World} {base g cp : Nat} {ws : List Nat} (hown : OwnW w base (.slice (some ⟨g, 0, none⟩) ws.length cp) ws) (q x : Nat) :
    OwnW (w.setCell ⟨g, q, none⟩ (.int .u64 (x : Nat))) base (.slice (some ⟨g, 0, none⟩) (ws.set q x).length cp) (ws.set q x) := by
  have hs := World.ownsRow.stored hown q (.int .u64 (x : Nat))
  have e : (cellsU ws).set q (.int .u64 (x : Nat)) = cellsU (ws.set q x) := by simp [cellsU, List.map_set]
  unfold OwnW
  rw [List.length_set, ← e]
  exact hs.1
theorem rformat_no (K n : Nat) (h1 : 1 ≤ K) (hK : K ≤ 131072) (h : ¬ fitsP n (8 * K)) (w : World) :
    Calls Tryz.prog 56 #[.int .u64 (8 * K : Nat), .int .u64 n] w fun e w' => ∃ v, e = .returned (.tuple #[v, .int .i64 2]) ∧ w.grownBy w' none ∧ OwnW w' w.heap.size v (List.replicate K 0) := by
  have hc := fun w => rnew_yes K h1 hK w
  have hf := fun w => rfits_any n (8 * K) w
  rw [decide_eq_false h] at hf
  obtain ⟨al, ea⟩ : ∃ x, 8 * K = x := ⟨_, rfl⟩
  rw [ea] at hf ⊢
  simp only [ea] at hc
  clear ea
  go_enter Tryz.func56, Tryz.ntmps56
  go_wp2_with (first | (go_at_call 96; (with_reducible refine (hc _).mono ?_); rintro e w1 ⟨rfl, hg1, ho1⟩) | (go_at_call 97; (with_reducible refine (hf _).mono ?_); rintro e w2 ⟨rfl, rfl⟩))
  go_ret2
  exact ⟨_, rfl, hg1, ho1⟩
set_option maxRecDepth 100000 in
set_option maxHeartbeats 1000000 in
theorem rformat_yes (K n : Nat) (hK : K ≤ 131072) (h : fitsP n (8 * K)) (w : World) :
    Calls Tryz.prog 56 #[.int .u64 (8 * K : Nat), .int .u64 n] w fun e w' => ∃ v, e = .returned (.tuple #[v, .int .i64 0]) ∧ w.grownBy w' none ∧ OwnW w' w.heap.size v (fmtW K n) := by
  have h1 : 1 ≤ K := by have := h.2.1; have := h.2.2; omega
  have hc := fun w => rnew_yes K h1 hK w
  have hf := fun w => rfits_any n (8 * K) w
  have hn : n < 18446744073709551616 := by have := h.2.2; omega
  have hsm := fun w => rsum_any n hn w
  rw [decide_eq_true h] at hf
  have hS := Lib.hid (fmtS_eq h)
  obtain ⟨q, hq⟩ : ∃ q, n / 8 - 1 = q := ⟨_, rfl⟩
  have hqK : q < K := by have := h.2.2; have := h.2.1; omega
  have e1 : IntKind.u64.wrap ((n : Int) - 3776) = (n - 3776 : Nat) := by have := h.2.1; rw [IntKind.wrap_u64]; omega
  obtain ⟨p, hp⟩ : ∃ p, n / 8 = p := ⟨_, rfl⟩
  have e2 : IntKind.u64.wrap ((p : Int) - 1) = (q : Nat) := by have := h.2.1; rw [IntKind.wrap_u64]; omega
  have e3 : IntKind.u64.wrap ((n : Int) / 8) = (p : Nat) := by rw [IntKind.wrap_u64]; omega
  have h473 : 478 ≤ K := by have := h.2.1; have := h.2.2; omega
  obtain ⟨al, ea⟩ : ∃ x, 8 * K = x := ⟨_, rfl⟩
  rw [ea] at hf ⊢
  simp only [ea] at hc
  have hq5 : 476 < q := by have := h.2.1; omega
  have k0 : ((K : Int) == 0) = false := by rw [beq_eq_false_iff_ne]; omega
  have n0 : ¬ q = 0 := by omega
  have n1 : ¬ q = 1 := by omega
  have n2 : ¬ q = 2 := by omega
  have n4 : ¬ q = 4 := by omega
  have n5 : ¬ q = 5 := by omega
  have n6 : ¬ q = 472 := by omega
  obtain ⟨sm, es⟩ : ∃ x, sumN n = x := ⟨_, rfl⟩
  obtain ⟨b, eb⟩ : ∃ x, n - 3776 = x := ⟨_, rfl⟩
  simp only [es] at hsm
  rw [eb] at e1
  have HQ := Lib.hid hq
  have HE := Lib.hid es
  have HB := Lib.hid eb
  clear ea h hq es eb hn hp
  go_enter Tryz.func56, Tryz.ntmps56
  go_wp2_with (first | (go_at_call 96; (with_reducible refine (hc _).mono ?_); rintro e w1 ⟨rfl, hg1, ho1⟩; have ho1' : OwnW w1 w.heap.size (.slice (some ⟨w.heap.size, 0, none⟩) (List.replicate K 0).length K) (List.replicate K 0) := (by rw [List.length_replicate]; exact ho1); have hfr := World.ownsRow.frozenAt ho1'; have hcl : ∀ j, j < K → w1.cell? ⟨w.heap.size, j, none⟩ = some (.int .u64 0) := (fun j hj => by have := OwnW.at_ ho1' j (by rw [List.length_replicate]; exact hj); rw [this, zeros_get]; rfl); have c0 := hcl 0 (by omega); have c1 := hcl 1 (by omega); have c2 := hcl 2 (by omega); have c4 := hcl 4 (by omega); have c5 := hcl 5 (by omega); have c6 := hcl 472 (by omega); have c7 := hcl q hqK; clear hcl; have HO := Lib.hid ho1'; clear ho1 ho1') | (go_at_call 97; (with_reducible refine (hf _).mono ?_); rintro e w2 ⟨rfl, rfl⟩) | (go_at_call 98; (with_reducible refine (hsm _).mono ?_); rintro e w2 ⟨rfl, rfl⟩))
  go_ret2
  have G : w1.grownBy _ (some w.heap.size) := grown_trans (grown_set w1 w.heap.size 0 (.int .u64 7161130718081542961)) (grown_trans (grown_set _ _ 1 (.int .u64 1)) (grown_trans (grown_set _ _ 2 (.int .u64 n)) (grown_trans (grown_set _ _ 4 (.int .u64 3776)) (grown_trans (grown_set _ _ 5 (.int .u64 sm)) (grown_trans (grown_set _ _ 472 (.int .u64 b)) (grown_set _ _ q (.int .u64 b)))))))
  have O := ((((((HO.out.set 0 7161130718081542961).set 1 1).set 2 n).set 4 3776).set 5 sm).set 472 b).set q b
  have e : fmtW K n = ((((((List.replicate K 0).set 0 7161130718081542961).set 1 1).set 2 n).set 4 3776).set 5 sm |>.set 472 b).set q b := by
    rw [← hS.out]
    unfold fmtS
    rw [HE.out, HB.out, HQ.out]
  rw [e]
  simp only [List.length_set, List.length_replicate] at O
  exact ⟨_, rfl, grown_step hg1 G (fun i hi => .inl (by injection hi with hi; omega)), O⟩
end Go.Proofs.YtcngmkfpbcemjaaGreat
namespace Go.Proofs.YtcngmkfpbcemjaaGreat
open Go.RowKit
theorem see_nil (ws : List Nat) (off : Nat) : txSee ws [] off = getW ws off := rfl
end Go.Proofs.YtcngmkfpbcemjaaGreat
namespace Go.Proofs.YtcngmkfpbcemjaaGreat
open Go.RowKit
theorem fmt_yes {ws : List Nat} {n : Nat} (h : fitsP n (8 * ws.length)) : fmt ws n = fmtW ws.length n ∧ fmtE ws n = 0 := ⟨if_pos h, if_pos h⟩
theorem fmt_no {ws : List Nat} {n : Nat} (h : ¬ fitsP n (8 * ws.length)) : fmt ws n = ws ∧ fmtE ws n = 2 := ⟨if_neg h, if_neg h⟩
theorem fmt_len (ws : List Nat) (n : Nat) : (fmt ws n).length = ws.length := by unfold fmt; split; exact fmtW_len _ _; rfl
end Go.Proofs.YtcngmkfpbcemjaaGreat
namespace Go.Proofs.YtcngmkfpbcemjaaGreat
open Go.RowKit
theorem new48 (w : World) : Calls Tryz.prog 54 #[.int .u64 4800] w fun e w' => e = .returned (.pointer (some ⟨w.heap.size + 1, 0, none⟩)) ∧ w.grownBy w' none ∧ IsSeg w' (w.heap.size + 1) w.heap.size (List.replicate 600 0) := new_yes 600 (by decide) (by decide) w
theorem len48 (n : Nat) : (fmt (List.replicate 600 0) n).length = 600 := by rw [fmt_len, List.length_replicate]
section
variable {n : Nat}
end
theorem Txs.first {w0 w1 w2 w3 : World} {ws ws' : List Nat} (hg1 : w0.grownBy w1 none) (hg2 : w1.grownBy w2 none) (hs : IsSeg w2 (w1.heap.size + 1) w1.heap.size ws) {w2' : World} (hg2' : w2.grownBy w2' (some w1.heap.size)) (hg3 : w2'.grownBy w3 none)
    (ht : Thinks w3 (w2'.heap.size + 1) w2'.heap.size none (w1.heap.size + 1) w1.heap.size ws' []) : Txs w0 w3 (w2'.heap.size + 1) w2'.heap.size none (w1.heap.size + 1) w1.heap.size ws' [] := by
  have h1 := hg1.size
  have h2 := hg2.size
  have h3 := hg2'.size
  refine ⟨ht, grown_trans hg1 (grown_trans (grown_new (grown_trans (grown_any hg2 _) hg2') (Nat.le_refl _)) hg3), by omega, by omega, (fun g hg => by cases hg), by omega, by omega⟩
section
variable {w0 wm w w' : World} {T M : Nat} {R : Option Nat} {B D : Nat} {ws : List Nat} {l : List (Nat × Nat)} {T' M' : Nat} {R' : Option Nat} {l' l2 : List (Nat × Nat)}
end
end Go.Proofs.YtcngmkfpbcemjaaGreat
