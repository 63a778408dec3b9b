/-
  Texts of one layer, one behind the other: memory, contracts of the functions, and what follows of them.
  Conditions: as each theorem says.
-/
import Derived.Test.YtkkkgikmeiocaaaLSea
import Derived.Test.YtkkkgikmeiocaaaLWoa
import Derived.Laws.Bits64
import Derived.Test.YtkkkgikmeiocaaaLTxc
import Derived.Deep.QuietTactic
import Derived.BigQuiet
import Derived.Shelf.RegionOpen
import Derived.Deep.LoopGhost
import Derived.Deep.RegionHeld3
import Derived.Test.YtkkkgikmeiocaaaLTxa
import Derived.Test.YtkkkgikmeiocaaaLTxb
set_option linter.unusedVariables false
set_option linter.unusedSimpArgs false
namespace Go.Proofs.Ytkkkgikmeiocaaa
open Go.RowKit
def sumN (n : Nat) : Nat := ((7161130718081542961 ^^^ n) * 11400714819323198485) % 18446744073709551616
theorem sumN_lt (n : Nat) : sumN n < 18446744073709551616 := Nat.mod_lt _ (by decide)
theorem sum_int (n : Nat) (hn : n < 18446744073709551616) : IntKind.u64.wrap (bits BinOp.xor IntKind.u64 7161130718081542961 (n : Int) * 11400714819323198485) = (sumN n : Nat) := by
  have h := bits_xor_u64_nat 7161130718081542961 n (by decide) hn
  rw [show ((7161130718081542961 : Nat) : Int) = 7161130718081542961 from rfl] at h
  rw [h, IntKind.wrap_u64]
  unfold sumN
  generalize 7161130718081542961 ^^^ n = x
  rw [Int.natCast_emod, Int.natCast_mul]
  rfl
theorem hsum_any (n : Nat) (hn : n < 18446744073709551616) (w : World) :
    Calls Try.prog 68 #[.int .u64 n] w fun e w' => e = .returned (.int .u64 (sumN n : Nat)) ∧ w = w' := by
  have hs := sum_int n hn
  go_enter Try.func68, Try.ntmps68
  go_wp2_with (first | (go_at_call 74; refine (mix_any _ _).mono ?_; rintro e w1 ⟨rfl, rfl⟩; rw [hs]))
  go_ret
  exact ⟨rfl, rfl⟩
theorem rsum_any (n : Nat) (hn : n < 18446744073709551616) (w : World) :
    Calls Try.prog 59 #[.int .u64 n] w fun e w' => e = .returned (.int .u64 (sumN n : Nat)) ∧ w = w' := by
  have hs := sum_int n hn
  go_enter Try.func59, Try.ntmps59
  go_wp2_with (first | (go_at_call 70; refine (rmix_any _ _).mono ?_; rintro e w1 ⟨rfl, rfl⟩; rw [hs]))
  go_ret
  exact ⟨rfl, rfl⟩
def fitsP (n a : Nat) : Prop := n % 16 = 0 ∧ 3824 ≤ n ∧ n ≤ a
instance (n a : Nat) : Decidable (fitsP n a) := by unfold fitsP; infer_instance
theorem fits_any (n a : Nat) (w : World) :
    Calls Try.prog 51 #[.int .u64 n, .int .u64 a] w fun e w' => e = .returned (.bool (decide (fitsP n a))) ∧ w = w' := by
  by_cases h0 : (n : Int) % 16 = 0
  · by_cases h1 : 3824 ≤ (n : Int)
    · have hd : decide (fitsP n a) = decide (n ≤ a) := by rw [decide_eq_decide]; unfold fitsP; omega
      rw [hd]
      go_enter Try.func51, Try.ntmps51
      go_wp2
      go_ret
      exact ⟨rfl, rfl⟩
    · rw [decide_eq_false (show ¬ fitsP n a by unfold fitsP; omega)]
      go_enter Try.func51, Try.ntmps51
      go_wp2
      go_ret
      exact ⟨rfl, rfl⟩
  · rw [decide_eq_false (show ¬ fitsP n a by unfold fitsP; omega)]
    go_enter Try.func51, Try.ntmps51
    go_wp2
    go_ret
    exact ⟨rfl, rfl⟩
theorem rfits_any (n a : Nat) (w : World) :
    Calls Try.prog 58 #[.int .u64 n, .int .u64 a] w fun e w' => e = .returned (.bool (decide (fitsP n a))) ∧ w = w' := by
  by_cases h0 : (n : Int) % 16 = 0
  · by_cases h1 : 3824 ≤ (n : Int)
    · have hd : decide (fitsP n a) = decide (n ≤ a) := by rw [decide_eq_decide]; unfold fitsP; omega
      rw [hd]
      go_enter Try.func58, Try.ntmps58
      go_wp2
      go_ret
      exact ⟨rfl, rfl⟩
    · rw [decide_eq_false (show ¬ fitsP n a by unfold fitsP; omega)]
      go_enter Try.func58, Try.ntmps58
      go_wp2
      go_ret
      exact ⟨rfl, rfl⟩
  · rw [decide_eq_false (show ¬ fitsP n a by unfold fitsP; omega)]
    go_enter Try.func58, Try.ntmps58
    go_wp2
    go_ret
    exact ⟨rfl, rfl⟩
theorem must_any (n : Nat) (hn : n < 18446744073709551616) (w : World) :
    Calls Try.prog 55 #[.int .u64 n] w fun e w' => e = .returned (.agg #[.int .u64 0, .int .u64 7161130718081542961, .int .u64 8, .int .u64 1, .int .u64 16, .int .u64 n, .int .u64 40, .int .u64 (sumN n : Nat)]) ∧ w.grownBy w' none := by
  have hs := fun w => hsum_any n hn w
  go_enter Try.func55, Try.ntmps55
  go_wp2_with (first | (go_at_call 68; refine (hs _).mono ?_; rintro e w1 ⟨rfl, rfl⟩))
  refine bodyPost_ret (results_cell_row (by kernel_rfl : Try.f55.results = #[.cell 2 108]) _ _ w.heap.size 108 _ (0, 0) _ rfl (heap_alloc_new' _ _) Try.underlying108 rfl (by kernel_rfl)) rfl ?_
  exact ⟨rfl, World.grownBy_alloc _ _ _⟩
theorem whole_any (n : Nat) (hn : n < 18446744073709551616) (h : 3824 ≤ n) (w : World) :
    Calls Try.prog 56 #[.int .u64 n] w fun e w' => e = .returned (.agg #[.int .u64 32, .int .u64 3776, .int .u64 3776, .int .u64 (n - 3776 : Nat), .int .u64 (n - 8 : Nat), .int .u64 (n - 3776 : Nat)]) ∧ w.grownBy w' none := by
  have e1 : IntKind.u64.wrap ((n : Int) - 3776) = (n - 3776 : Nat) := by rw [IntKind.wrap_u64]; omega
  have e2 : IntKind.u64.wrap ((n : Int) - 8) = (n - 8 : Nat) := by rw [IntKind.wrap_u64]; omega
  go_enter Try.func56, Try.ntmps56
  go_wp2
  refine bodyPost_ret (results_cell_row (by kernel_rfl : Try.f56.results = #[.cell 2 110]) _ _ w.heap.size 110 _ (0, 0) _ rfl (heap_alloc_new' _ _) Try.underlying110 rfl (by kernel_rfl)) rfl ?_
  exact ⟨rfl, World.grownBy_alloc _ _ _⟩
theorem pair_new {wr w' : World} {a b : Value} {t : TypeId} (hg : (wr.alloc (.cells #[a, b] t)).grownBy w' none) : w'.cell? ⟨wr.heap.size, 0, none⟩ = some a ∧ w'.cell? ⟨wr.heap.size, 1, none⟩ = some b := by
  have h := (hg.block wr.heap.size (by rw [World.size_alloc]; omega) (by simp)).trans (heap_alloc_new' _ _)
  exact ⟨by simp [World.cell?, h], by simp [World.cell?, h]⟩
end Go.Proofs.Ytkkkgikmeiocaaa
namespace Go.Proofs.Ytkkkgikmeiocaaa
open Go.RowKit
theorem fstore_any {w : World} {V B D : Nat} {ws : List Nat} (hV : w.cell? ⟨V, 0, none⟩ = some (.pointer (some ⟨B, 0, none⟩))) (hs : IsSeg w B D ws) (off v : Nat) (ho : off < 18446744073709551616) (hv : v < 18446744073709551616) :
    Calls Try.prog 53 #[.agg #[.int .u64 off, .int .u64 v], .pointer (some ⟨V, 0, none⟩)] w fun e w' => e = .returned (.tuple #[]) ∧ w.grownBy w' (some D) ∧ IsSeg w' B D (put ws off v) := by
  have hc := fun (w1 : World) (hg : w.grownBy w1 none) => store_any (hs.later hg) off v ho hv
  have hA : w.grownBy (w.alloc (.cells #[.int .u64 off, .int .u64 v] 89)) none := World.grownBy_alloc _ _ _
  have hV' := (World.cell?_of_block (w := w) (a := ⟨V, 0, none⟩) (hA.block V (World.block_lt_of_cell? w ⟨V, 0, none⟩ hV) (by simp))).trans hV
  obtain ⟨m0, m1⟩ := pair_new (grown_refl (w.alloc (.cells #[.int .u64 off, .int .u64 v] 89)) none)
  go_enter Try.func53, Try.ntmps53
  go_wp2_with (first | (go_at_call 54; (with_reducible refine (hc _ (World.grownBy_alloc _ _ _)).mono ?_); rintro e w1 ⟨rfl, hg1, hs1⟩))
  go_end0
  exact ⟨rfl, grown_trans (grown_any (World.grownBy_alloc _ _ _) _) hg1, hs1⟩
def zeroW (ws : List Nat) (k : Nat) : List Nat := List.replicate k 0 ++ ws.drop k
theorem zeroW_len (ws : List Nat) (k : Nat) (h : k ≤ ws.length) : (zeroW ws k).length = ws.length := by simp [zeroW]; omega
theorem zeroW_zero (ws : List Nat) : zeroW ws 0 = ws := by simp [zeroW]
theorem zeroW_all (ws : List Nat) : zeroW ws ws.length = List.replicate ws.length 0 := by simp [zeroW]
theorem zeroW_step (ws : List Nat) (k : Nat) (h : k < ws.length) : put (zeroW ws k) (8 * k) 0 = zeroW ws (k + 1) := by
  unfold put
  rw [if_pos ⟨by omega, by rw [zeroW_len ws k (by omega)]; omega⟩, show 8 * k / 8 = k by omega]
  unfold zeroW
  rw [List.set_append_right _ _ (by simp), List.length_replicate, Nat.sub_self, List.drop_eq_getElem_cons h, List.set_cons_zero, List.replicate_succ', List.append_assoc]
  rfl
def mustW (z : List Nat) (n : Nat) : Nat → List Nat
  | 0 => z
  | 1 => put z 0 7161130718081542961
  | 2 => put (put z 0 7161130718081542961) 8 1
  | 3 => put (put (put z 0 7161130718081542961) 8 1) 16 n
  | _ => put (put (put (put z 0 7161130718081542961) 8 1) 16 n) 40 (sumN n)
def wholeW (z : List Nat) (n : Nat) : Nat → List Nat
  | 0 => z
  | 1 => put z 32 3776
  | 2 => put (put z 32 3776) 3776 (n - 3776)
  | _ => put (put (put z 32 3776) 3776 (n - 3776)) (n - 8) (n - 3776)
def fmtW (K n : Nat) : List Nat := wholeW (mustW (List.replicate K 0) n 4) n 3
theorem mustW_len (z : List Nat) (n k : Nat) : (mustW z n k).length = z.length := by unfold mustW; split <;> simp [put_len]
theorem wholeW_len (z : List Nat) (n k : Nat) : (wholeW z n k).length = z.length := by unfold wholeW; split <;> simp [put_len]
theorem fmtW_len (K n : Nat) : (fmtW K n).length = K := by unfold fmtW; rw [wholeW_len, mustW_len, List.length_replicate]
def fmt (ws : List Nat) (n : Nat) : List Nat := if fitsP n (8 * ws.length) then fmtW ws.length n else ws
def fmtE (ws : List Nat) (n : Nat) : Nat := if fitsP n (8 * ws.length) then 0 else 2
structure FmtRel (w : World) (V B D : Nat) (ws : List Nat) (wr : World) : Prop where
  grown : w.grownBy wr (some D)
  box : wr.heap[V]? = some (.cells #[.pointer (some ⟨B, 0, none⟩)] 82 (0, 0))
  seg : IsSeg wr B D ws
section
variable {w wr w' : World} {V B D : Nat} {ws ws' : List Nat}
theorem FmtRel.later (h : FmtRel w V B D ws wr) (hg : wr.grownBy w' none) : FmtRel w V B D ws w' :=
  ⟨grown_trans h.grown (grown_any hg _), (hg.block V (lt_of_block h.box) (by simp)).trans h.box, h.seg.later hg⟩
theorem FmtRel.store (h : FmtRel w V B D ws wr) (hg : wr.grownBy w' (some D)) (hs : IsSeg w' B D ws') : FmtRel w V B D ws' w' :=
  ⟨grown_trans h.grown hg, (hg.block V (lt_of_block h.box) (by intro e; injection e with e; exact ne_type h.box h.seg.data (by decide) e)).trans h.box, hs⟩
theorem FmtRel.cell (h : FmtRel w V B D ws wr) : wr.cell? ⟨V, 0, none⟩ = some (.pointer (some ⟨B, 0, none⟩)) := cell_of_one h.box
end
section
variable {w : World} {B D : Nat} {ws : List Nat}
set_option maxHeartbeats 1000000 in
theorem format_any (h : IsSeg w B D ws) (n : Nat) (hn : n < 18446744073709551616) : Calls Try.prog 38 #[.pointer (some ⟨B, 0, none⟩), .int .u64 n] w fun e w' => e = .returned (.int .i64 (fmtE ws n : Nat)) ∧ w.grownBy w' (some D) ∧ IsSeg w' B D (fmt ws n) := by
  have hz := fun (w1 : World) (hs : IsSeg w1 B D ws) => size_any (.inr ⟨B, D, rfl, hs⟩)
  have hf := fun w => fits_any n (8 * ws.length) w
  have hm := fun w => must_any n hn w
  unfold fmtE fmt
  have hA : w.grownBy (w.alloc (.cells #[.pointer (some ⟨B, 0, none⟩)] 82)) none := World.grownBy_alloc _ _ _
  by_cases hfit : fitsP n (8 * ws.length)
  · rw [if_pos hfit, if_pos hfit]
    rw [decide_eq_true hfit] at hf
    obtain ⟨al, ea⟩ : ∃ x, 8 * ws.length = x := ⟨_, rfl⟩
    rw [ea] at hf
    simp only [ea] at hz
    go_enter Try.func38, Try.ntmps38
    go_wp2_with (first | (go_at_call 52; (with_reducible refine (hz _ (h.later hA)).mono ?_); rintro e w2 ⟨rfl, rfl⟩) | (go_at_call 51; (with_reducible refine (hf _).mono ?_); rintro e w2 ⟨rfl, rfl⟩))
    have i0 : ∀ w : World, (Instr.index 108 (.agg #[.int .u64 0, .int .u64 7161130718081542961, .int .u64 8, .int .u64 1, .int .u64 16, .int .u64 n, .int .u64 40, .int .u64 (sumN n : Nat)]) (.int .i64 0)).run Try.prog w = .ok (.agg #[.int .u64 0, .int .u64 7161130718081542961]) w := fun _ => by kernel_rfl
    have i1 : ∀ w : World, (Instr.index 108 (.agg #[.int .u64 0, .int .u64 7161130718081542961, .int .u64 8, .int .u64 1, .int .u64 16, .int .u64 n, .int .u64 40, .int .u64 (sumN n : Nat)]) (.int .i64 1)).run Try.prog w = .ok (.agg #[.int .u64 8, .int .u64 1]) w := fun _ => by kernel_rfl
    have i2 : ∀ w : World, (Instr.index 108 (.agg #[.int .u64 0, .int .u64 7161130718081542961, .int .u64 8, .int .u64 1, .int .u64 16, .int .u64 n, .int .u64 40, .int .u64 (sumN n : Nat)]) (.int .i64 2)).run Try.prog w = .ok (.agg #[.int .u64 16, .int .u64 n]) w := fun _ => by kernel_rfl
    have i3 : ∀ w : World, (Instr.index 108 (.agg #[.int .u64 0, .int .u64 7161130718081542961, .int .u64 8, .int .u64 1, .int .u64 16, .int .u64 n, .int .u64 40, .int .u64 (sumN n : Nat)]) (.int .i64 3)).run Try.prog w = .ok (.agg #[.int .u64 40, .int .u64 (sumN n : Nat)]) w := fun _ => by kernel_rfl
    have j0 : ∀ w : World, (Instr.index 110 (.agg #[.int .u64 32, .int .u64 3776, .int .u64 3776, .int .u64 (n - 3776 : Nat), .int .u64 (n - 8 : Nat), .int .u64 (n - 3776 : Nat)]) (.int .i64 0)).run Try.prog w = .ok (.agg #[.int .u64 32, .int .u64 3776]) w := fun _ => by kernel_rfl
    have j1 : ∀ w : World, (Instr.index 110 (.agg #[.int .u64 32, .int .u64 3776, .int .u64 3776, .int .u64 (n - 3776 : Nat), .int .u64 (n - 8 : Nat), .int .u64 (n - 3776 : Nat)]) (.int .i64 1)).run Try.prog w = .ok (.agg #[.int .u64 3776, .int .u64 (n - 3776 : Nat)]) w := fun _ => by kernel_rfl
    have j2 : ∀ w : World, (Instr.index 110 (.agg #[.int .u64 32, .int .u64 3776, .int .u64 3776, .int .u64 (n - 3776 : Nat), .int .u64 (n - 8 : Nat), .int .u64 (n - 3776 : Nat)]) (.int .i64 2)).run Try.prog w = .ok (.agg #[.int .u64 (n - 8 : Nat), .int .u64 (n - 3776 : Nat)]) w := fun _ => by kernel_rfl
    have R0 : FmtRel w w.heap.size B D (zeroW ws 0) (w.alloc (.cells #[.pointer (some ⟨B, 0, none⟩)] 82)) := ⟨grown_any hA _, heap_alloc_new' _ _, by rw [zeroW_zero]; exact h.later hA⟩
    obtain ⟨V, hV⟩ : ∃ V, w.heap.size = V := ⟨_, rfl⟩
    rw [hV] at R0 ⊢
    have EA := Lib.hid ea
    have hmost := h.most
    have hm1 : al ≤ 1048576 := by omega
    clear hV ea hz
    go_loopw [6] (fun i wr => ∃ k off : Nat, k ≤ ws.length ∧ Hid (off = 8 * k) ∧ i = .int .u64 off ∧ FmtRel w V B D (zeroW ws k) wr) (fun i _ => al - (intOf i).toNat)
    case atStart => exact ⟨0, 0, Nat.zero_le _, Lib.hid rfl, rfl, R0⟩
    case round =>
      obtain ⟨k, off, hk, HO, rfl, R⟩ := hrel
      have hoff := HO.out
      have hz : Calls Try.prog 52 #[.pointer (some ⟨B, 0, none⟩)] wr _ := size_any (.inr ⟨B, D, rfl, R.seg⟩)
      rw [zeroW_len ws k hk, EA.out] at hz
      have hcb := R.cell
      clear R0
      by_cases hlt : off < al
      · have hst := fstore_any R.cell R.seg off 0 (by omega) (by decide)
        have hkl : k < ws.length := by have := EA.out; omega
        rw [hoff, zeroW_step ws k hkl, ← hoff] at hst
        have hlt' : (off : Int) < (al : Int) := by omega
        clear hoff
        go_wp2_with (first | (go_at_call 52; (with_reducible refine hz.mono ?_); rintro e w2 ⟨rfl, rfl⟩) | (go_at_call 53; refine hst.mono ?_; rintro e w3 ⟨rfl, hg3, hs3⟩))
        go_roundw
        case rel => exact ⟨k + 1, off + 8, by omega, Lib.hid (by have := HO.out; omega), by go_num, R.store hg3 hs3⟩
        case measure => simp [intOf]; omega
      · obtain rfl : k = ws.length := by have := EA.out; omega
        have hlt' : ¬ (off : Int) < (al : Int) := by omega
        rw [zeroW_all] at R
        have hw := fun w => whole_any n hn hfit.2.1 w
        clear hoff
        go_wp2_with (first | (go_at_call 52; (with_reducible refine hz.mono ?_); rintro e w2 ⟨rfl, rfl⟩) | (go_at_call 55; (with_reducible refine (hm _).mono ?_); rintro e w4 ⟨rfl, hg4⟩))
        have R4 := R.later hg4
        obtain ⟨z, ez⟩ : ∃ z, List.replicate ws.length 0 = z := ⟨_, rfl⟩
        rw [ez] at R4
        have EZ := Lib.hid ez
        have hfit2 := hfit.2.1
        clear R hz hcb hlt hk HO ez hfit hg4
        go_loopw [31] (fun i wr => ∃ k : Nat, k ≤ 4 ∧ i = .int .i64 k ∧ FmtRel w V B D (mustW z n k) wr) (fun i _ => 4 - (intOf i).toNat)
        case atStart => exact ⟨0, by omega, rfl, R4⟩
        case round =>
          obtain ⟨k, hk, rfl, R⟩ := hrel
          clear R4
          have hcb := R.cell
          rcases k with _ | _ | _ | _ | k
          · have hst : ∀ w1, wr.grownBy w1 none → Calls Try.prog 53 #[.agg #[.int .u64 0, .int .u64 7161130718081542961], .pointer (some ⟨V, 0, none⟩)] w1 fun e w' => e = .returned (.tuple #[]) ∧ w1.grownBy w' (some D) ∧ IsSeg w' B D (mustW z n 1) := fun w1 hg => fstore_any (R.later hg).cell (R.later hg).seg 0 7161130718081542961 (by decide) (by decide)
            obtain ⟨m0, m1⟩ := pair_new (grown_refl (wr.alloc (.cells #[.int .u64 0, .int .u64 7161130718081542961] 89)) none)
            have HA : wr.grownBy (wr.alloc (.cells #[.int .u64 0, .int .u64 7161130718081542961] 89)) none := World.grownBy_alloc _ _ _
            go_wp2_with (first | (go_at_call 53; (with_reducible refine (hst _ HA).mono ?_); rintro e w5 ⟨rfl, hg5, hs5⟩))
            exact ⟨⟨1, by omega, rfl, (R.later HA).store hg5 hs5⟩, by simp [intOf]⟩
          · have hst : ∀ w1, wr.grownBy w1 none → Calls Try.prog 53 #[.agg #[.int .u64 8, .int .u64 1], .pointer (some ⟨V, 0, none⟩)] w1 fun e w' => e = .returned (.tuple #[]) ∧ w1.grownBy w' (some D) ∧ IsSeg w' B D (mustW z n 2) := fun w1 hg => fstore_any (R.later hg).cell (R.later hg).seg 8 1 (by decide) (by decide)
            obtain ⟨m0, m1⟩ := pair_new (grown_refl (wr.alloc (.cells #[.int .u64 8, .int .u64 1] 89)) none)
            have HA : wr.grownBy (wr.alloc (.cells #[.int .u64 8, .int .u64 1] 89)) none := World.grownBy_alloc _ _ _
            go_wp2_with (first | (go_at_call 53; (with_reducible refine (hst _ HA).mono ?_); rintro e w5 ⟨rfl, hg5, hs5⟩))
            exact ⟨⟨2, by omega, rfl, (R.later HA).store hg5 hs5⟩, by simp [intOf]⟩
          · have hst : ∀ w1, wr.grownBy w1 none → Calls Try.prog 53 #[.agg #[.int .u64 16, .int .u64 n], .pointer (some ⟨V, 0, none⟩)] w1 fun e w' => e = .returned (.tuple #[]) ∧ w1.grownBy w' (some D) ∧ IsSeg w' B D (mustW z n 3) := fun w1 hg => fstore_any (R.later hg).cell (R.later hg).seg 16 n (by decide) hn
            obtain ⟨m0, m1⟩ := pair_new (grown_refl (wr.alloc (.cells #[.int .u64 16, .int .u64 n] 89)) none)
            have HA : wr.grownBy (wr.alloc (.cells #[.int .u64 16, .int .u64 n] 89)) none := World.grownBy_alloc _ _ _
            go_wp2_with (first | (go_at_call 53; (with_reducible refine (hst _ HA).mono ?_); rintro e w5 ⟨rfl, hg5, hs5⟩))
            exact ⟨⟨3, by omega, rfl, (R.later HA).store hg5 hs5⟩, by simp [intOf]⟩
          · have hst : ∀ w1, wr.grownBy w1 none → Calls Try.prog 53 #[.agg #[.int .u64 40, .int .u64 (sumN n : Nat)], .pointer (some ⟨V, 0, none⟩)] w1 fun e w' => e = .returned (.tuple #[]) ∧ w1.grownBy w' (some D) ∧ IsSeg w' B D (mustW z n 4) := fun w1 hg => fstore_any (R.later hg).cell (R.later hg).seg 40 (sumN n) (by decide) (sumN_lt n)
            obtain ⟨m0, m1⟩ := pair_new (grown_refl (wr.alloc (.cells #[.int .u64 40, .int .u64 (sumN n : Nat)] 89)) none)
            have HA : wr.grownBy (wr.alloc (.cells #[.int .u64 40, .int .u64 (sumN n : Nat)] 89)) none := World.grownBy_alloc _ _ _
            go_wp2_with (first | (go_at_call 53; (with_reducible refine (hst _ HA).mono ?_); rintro e w5 ⟨rfl, hg5, hs5⟩))
            exact ⟨⟨4, by omega, rfl, (R.later HA).store hg5 hs5⟩, by simp [intOf]⟩
          · obtain rfl : k = 0 := by omega
            go_wp2_with (first | (go_at_call 56; (with_reducible refine (hw _).mono ?_); rintro e w6 ⟨rfl, hg6⟩))
            have R6 := R.later hg6
            obtain ⟨y, ey⟩ : ∃ y, mustW z n (0 + 1 + 1 + 1 + 1) = y := ⟨_, rfl⟩
            rw [ey] at R6
            have hy : wholeW y n 3 = fmtW ws.length n := by rw [← ey, ← EZ.out]; rfl
            have HY := Lib.hid hy
            clear R hcb hk ey hg6 hy
            go_loopw [40] (fun i wr => ∃ k : Nat, k ≤ 3 ∧ i = .int .i64 k ∧ FmtRel w V B D (wholeW y n k) wr) (fun i _ => 3 - (intOf i).toNat)
            case atStart => exact ⟨0, by omega, rfl, R6⟩
            case round =>
              obtain ⟨k, hk, rfl, R⟩ := hrel
              clear R6
              have hcb := R.cell
              rcases k with _ | _ | _ | k
              · have hst : ∀ w1, wr.grownBy w1 none → Calls Try.prog 53 #[.agg #[.int .u64 32, .int .u64 3776], .pointer (some ⟨V, 0, none⟩)] w1 fun e w' => e = .returned (.tuple #[]) ∧ w1.grownBy w' (some D) ∧ IsSeg w' B D (wholeW y n 1) := fun w1 hg => fstore_any (R.later hg).cell (R.later hg).seg 32 3776 (by decide) (by decide)
                obtain ⟨m0, m1⟩ := pair_new (grown_refl (wr.alloc (.cells #[.int .u64 32, .int .u64 3776] 89)) none)
                have HA : wr.grownBy (wr.alloc (.cells #[.int .u64 32, .int .u64 3776] 89)) none := World.grownBy_alloc _ _ _
                go_wp2_with (first | (go_at_call 53; (with_reducible refine (hst _ HA).mono ?_); rintro e w7 ⟨rfl, hg7, hs7⟩))
                exact ⟨⟨1, by omega, rfl, (R.later HA).store hg7 hs7⟩, by simp [intOf]⟩
              · have hst : ∀ w1, wr.grownBy w1 none → Calls Try.prog 53 #[.agg #[.int .u64 3776, .int .u64 (n - 3776 : Nat)], .pointer (some ⟨V, 0, none⟩)] w1 fun e w' => e = .returned (.tuple #[]) ∧ w1.grownBy w' (some D) ∧ IsSeg w' B D (wholeW y n 2) := fun w1 hg => fstore_any (R.later hg).cell (R.later hg).seg 3776 (n - 3776) (by decide) (by omega)
                obtain ⟨m0, m1⟩ := pair_new (grown_refl (wr.alloc (.cells #[.int .u64 3776, .int .u64 (n - 3776 : Nat)] 89)) none)
                have HA : wr.grownBy (wr.alloc (.cells #[.int .u64 3776, .int .u64 (n - 3776 : Nat)] 89)) none := World.grownBy_alloc _ _ _
                go_wp2_with (first | (go_at_call 53; (with_reducible refine (hst _ HA).mono ?_); rintro e w7 ⟨rfl, hg7, hs7⟩))
                exact ⟨⟨2, by omega, rfl, (R.later HA).store hg7 hs7⟩, by simp [intOf]⟩
              · have hst : ∀ w1, wr.grownBy w1 none → Calls Try.prog 53 #[.agg #[.int .u64 (n - 8 : Nat), .int .u64 (n - 3776 : Nat)], .pointer (some ⟨V, 0, none⟩)] w1 fun e w' => e = .returned (.tuple #[]) ∧ w1.grownBy w' (some D) ∧ IsSeg w' B D (wholeW y n 3) := fun w1 hg => fstore_any (R.later hg).cell (R.later hg).seg (n - 8) (n - 3776) (by omega) (by omega)
                obtain ⟨m0, m1⟩ := pair_new (grown_refl (wr.alloc (.cells #[.int .u64 (n - 8 : Nat), .int .u64 (n - 3776 : Nat)] 89)) none)
                have HA : wr.grownBy (wr.alloc (.cells #[.int .u64 (n - 8 : Nat), .int .u64 (n - 3776 : Nat)] 89)) none := World.grownBy_alloc _ _ _
                go_wp2_with (first | (go_at_call 53; (with_reducible refine (hst _ HA).mono ?_); rintro e w7 ⟨rfl, hg7, hs7⟩))
                exact ⟨⟨3, by omega, rfl, (R.later HA).store hg7 hs7⟩, by simp [intOf]⟩
              · obtain rfl : k = 0 := by omega
                go_wp2
                go_ret
                have hs := R.seg
                rw [HY.out] at hs
                exact ⟨rfl, R.grown, hs⟩
  · rw [if_neg hfit, if_neg hfit]
    rw [decide_eq_false hfit] at hf
    obtain ⟨al, ea⟩ : ∃ x, 8 * ws.length = x := ⟨_, rfl⟩
    rw [ea] at hf
    simp only [ea] at hz
    go_enter Try.func38, Try.ntmps38
    go_wp2_with (first | (go_at_call 52; (with_reducible refine (hz _ (h.later hA)).mono ?_); rintro e w2 ⟨rfl, rfl⟩) | (go_at_call 51; (with_reducible refine (hf _).mono ?_); rintro e w2 ⟨rfl, rfl⟩))
    go_ret
    exact ⟨rfl, grown_any hA _, h.later hA⟩
end
end Go.Proofs.Ytkkkgikmeiocaaa
namespace Go.Proofs.Ytkkkgikmeiocaaa
open Go.RowKit
theorem fmtW_def (K n : Nat) : fmtW K n = put (put (put (put (put (put (put (List.replicate K 0) 0 7161130718081542961) 8 1) 16 n) 40 (sumN n)) 32 3776) 3776 (n - 3776)) (n - 8) (n - 3776) := rfl
theorem zeros_get (K j : Nat) : (List.replicate K 0).getD j 0 = 0 := by
  rw [List.getD_eq_getElem?_getD, List.getElem?_replicate]
  split <;> rfl
theorem getW_zeros (K off : Nat) : getW (List.replicate K 0) off = 0 := by
  unfold getW
  split
  · rw [List.getD_eq_getElem?_getD, List.getElem?_replicate]
    split <;> rfl
  · rfl
theorem getW_fmt {K n : Nat} (h : fitsP n (8 * K)) (off : Nat) : getW (fmtW K n) off = if off = n - 8 then n - 3776 else if off = 3776 then n - 3776 else if off = 32 then 3776 else if off = 40 then sumN n else if off = 16 then n else if off = 8 then 1 else if off = 0 then 7161130718081542961 else 0 := by
  obtain ⟨h1, h2, h3⟩ := h
  have st : ∀ {z : List Nat} (x : Nat), z.length = K → x % 8 = 0 → x < 3824 → stands z x := fun x hz hx hx2 => ⟨hx, by rw [hz]; omega⟩
  rw [fmtW_def]
  rw [getW_put' _ _ ⟨by omega, by simp only [put_len, List.length_replicate]; omega⟩]
  rw [getW_put' _ _ (st 3776 (by simp only [put_len, List.length_replicate]) (by decide) (by decide))]
  rw [getW_put' _ _ (st 32 (by simp only [put_len, List.length_replicate]) (by decide) (by decide))]
  rw [getW_put' _ _ (st 40 (by simp only [put_len, List.length_replicate]) (by decide) (by decide))]
  rw [getW_put' _ _ (st 16 (by simp only [put_len, List.length_replicate]) (by decide) (by decide))]
  rw [getW_put' _ _ (st 8 (by simp only [put_len, List.length_replicate]) (by decide) (by decide))]
  rw [getW_put' _ _ (st 0 (by simp only [List.length_replicate]) (by decide) (by decide)), getW_zeros]
def fmtS (K n : Nat) : List Nat := (((((((List.replicate K 0).set 0 7161130718081542961).set 1 1).set 2 n).set 4 3776).set 5 (sumN n)).set 472 (n - 3776)).set (n / 8 - 1) (n - 3776)
theorem put_set {ws : List Nat} {off : Nat} (q v : Nat) (h : off = 8 * q) (hl : q < ws.length) : put ws off v = ws.set q v := by
  subst h
  unfold put
  rw [if_pos ⟨by omega, by omega⟩, show 8 * q / 8 = q by omega]
theorem fmtS_eq {K n : Nat} (h : fitsP n (8 * K)) : fmtS K n = fmtW K n := by
  obtain ⟨h1, h2, h3⟩ := h
  rw [fmtW_def]
  unfold fmtS
  have hl : (List.replicate K 0).length = K := List.length_replicate
  generalize List.replicate K 0 = z at hl
  rw [put_set 0 _ rfl (by omega), put_set 1 _ rfl (by simp; omega), put_set 2 _ rfl (by simp; omega), put_set 5 _ rfl (by simp; omega), put_set 4 _ rfl (by simp; omega), put_set 472 _ rfl (by simp; omega), put_set (n / 8 - 1) _ (by omega) (by simp; omega), List.set_comm (i := 5) (j := 4) _ _ (by decide)]
theorem OwnW.set {w : World} {base g cp : Nat} {ws : List Nat} (hown : OwnW w base (.slice (some ⟨g, 0, none⟩) ws.length cp) ws) (q x : Nat) :
    OwnW (w.setCell ⟨g, q, none⟩ (.int .u64 (x : Nat))) base (.slice (some ⟨g, 0, none⟩) (ws.set q x).length cp) (ws.set q x) := by
  have hs := World.ownsRow.stored hown q (.int .u64 (x : Nat))
  have e : (cellsU ws).set q (.int .u64 (x : Nat)) = cellsU (ws.set q x) := by simp [cellsU, List.map_set]
  unfold OwnW
  rw [List.length_set, ← e]
  exact hs.1
theorem rformat_no (K n : Nat) (h1 : 1 ≤ K) (hK : K ≤ 131072) (h : ¬ fitsP n (8 * K)) (w : World) :
    Calls Try.prog 39 #[.int .u64 (8 * K : Nat), .int .u64 n] w fun e w' => ∃ v, e = .returned (.tuple #[v, .int .i64 2]) ∧ w.grownBy w' none ∧ OwnW w' w.heap.size v (List.replicate K 0) := by
  have hc := fun w => rnew_yes K h1 hK w
  have hf := fun w => rfits_any n (8 * K) w
  rw [decide_eq_false h] at hf
  obtain ⟨al, ea⟩ : ∃ x, 8 * K = x := ⟨_, rfl⟩
  rw [ea] at hf ⊢
  simp only [ea] at hc
  clear ea
  go_enter Try.func39, Try.ntmps39
  go_wp2_with (first | (go_at_call 57; (with_reducible refine (hc _).mono ?_); rintro e w1 ⟨rfl, hg1, ho1⟩) | (go_at_call 58; (with_reducible refine (hf _).mono ?_); rintro e w2 ⟨rfl, rfl⟩))
  go_ret2
  exact ⟨_, rfl, hg1, ho1⟩
set_option maxRecDepth 100000 in
set_option maxHeartbeats 1000000 in
theorem rformat_yes (K n : Nat) (hK : K ≤ 131072) (h : fitsP n (8 * K)) (w : World) :
    Calls Try.prog 39 #[.int .u64 (8 * K : Nat), .int .u64 n] w fun e w' => ∃ v, e = .returned (.tuple #[v, .int .i64 0]) ∧ w.grownBy w' none ∧ OwnW w' w.heap.size v (fmtW K n) := by
  have h1 : 1 ≤ K := by have := h.2.1; have := h.2.2; omega
  have hc := fun w => rnew_yes K h1 hK w
  have hf := fun w => rfits_any n (8 * K) w
  have hn : n < 18446744073709551616 := by have := h.2.2; omega
  have hsm := fun w => rsum_any n hn w
  rw [decide_eq_true h] at hf
  have hS := Lib.hid (fmtS_eq h)
  obtain ⟨q, hq⟩ : ∃ q, n / 8 - 1 = q := ⟨_, rfl⟩
  have hqK : q < K := by have := h.2.2; have := h.2.1; omega
  have e1 : IntKind.u64.wrap ((n : Int) - 3776) = (n - 3776 : Nat) := by have := h.2.1; rw [IntKind.wrap_u64]; omega
  obtain ⟨p, hp⟩ : ∃ p, n / 8 = p := ⟨_, rfl⟩
  have e2 : IntKind.u64.wrap ((p : Int) - 1) = (q : Nat) := by have := h.2.1; rw [IntKind.wrap_u64]; omega
  have e3 : IntKind.u64.wrap ((n : Int) / 8) = (p : Nat) := by rw [IntKind.wrap_u64]; omega
  have h473 : 478 ≤ K := by have := h.2.1; have := h.2.2; omega
  obtain ⟨al, ea⟩ : ∃ x, 8 * K = x := ⟨_, rfl⟩
  rw [ea] at hf ⊢
  simp only [ea] at hc
  have hq5 : 476 < q := by have := h.2.1; omega
  have k0 : ((K : Int) == 0) = false := by rw [beq_eq_false_iff_ne]; omega
  have n0 : ¬ q = 0 := by omega
  have n1 : ¬ q = 1 := by omega
  have n2 : ¬ q = 2 := by omega
  have n4 : ¬ q = 4 := by omega
  have n5 : ¬ q = 5 := by omega
  have n6 : ¬ q = 472 := by omega
  obtain ⟨sm, es⟩ : ∃ x, sumN n = x := ⟨_, rfl⟩
  obtain ⟨b, eb⟩ : ∃ x, n - 3776 = x := ⟨_, rfl⟩
  simp only [es] at hsm
  rw [eb] at e1
  have HQ := Lib.hid hq
  have HE := Lib.hid es
  have HB := Lib.hid eb
  clear ea h hq es eb hn hp
  go_enter Try.func39, Try.ntmps39
  go_wp2_with (first | (go_at_call 57; (with_reducible refine (hc _).mono ?_); rintro e w1 ⟨rfl, hg1, ho1⟩; have ho1' : OwnW w1 w.heap.size (.slice (some ⟨w.heap.size, 0, none⟩) (List.replicate K 0).length K) (List.replicate K 0) := (by rw [List.length_replicate]; exact ho1); have hfr := World.ownsRow.frozenAt ho1'; have hcl : ∀ j, j < K → w1.cell? ⟨w.heap.size, j, none⟩ = some (.int .u64 0) := (fun j hj => by have := OwnW.at_ ho1' j (by rw [List.length_replicate]; exact hj); rw [this, zeros_get]; rfl); have c0 := hcl 0 (by omega); have c1 := hcl 1 (by omega); have c2 := hcl 2 (by omega); have c4 := hcl 4 (by omega); have c5 := hcl 5 (by omega); have c6 := hcl 472 (by omega); have c7 := hcl q hqK; clear hcl; have HO := Lib.hid ho1'; clear ho1 ho1') | (go_at_call 58; (with_reducible refine (hf _).mono ?_); rintro e w2 ⟨rfl, rfl⟩) | (go_at_call 59; (with_reducible refine (hsm _).mono ?_); rintro e w2 ⟨rfl, rfl⟩))
  go_ret2
  have G : w1.grownBy _ (some w.heap.size) := grown_trans (grown_set w1 w.heap.size 0 (.int .u64 7161130718081542961)) (grown_trans (grown_set _ _ 1 (.int .u64 1)) (grown_trans (grown_set _ _ 2 (.int .u64 n)) (grown_trans (grown_set _ _ 4 (.int .u64 3776)) (grown_trans (grown_set _ _ 5 (.int .u64 sm)) (grown_trans (grown_set _ _ 472 (.int .u64 b)) (grown_set _ _ q (.int .u64 b)))))))
  have O := ((((((HO.out.set 0 7161130718081542961).set 1 1).set 2 n).set 4 3776).set 5 sm).set 472 b).set q b
  have e : fmtW K n = ((((((List.replicate K 0).set 0 7161130718081542961).set 1 1).set 2 n).set 4 3776).set 5 sm |>.set 472 b).set q b := by
    rw [← hS.out]
    unfold fmtS
    rw [HE.out, HB.out, HQ.out]
  rw [e]
  simp only [List.length_set, List.length_replicate] at O
  exact ⟨_, rfl, grown_step hg1 G (fun i hi => .inl (by injection hi with hi; omega)), O⟩
end Go.Proofs.Ytkkkgikmeiocaaa
namespace Go.Proofs.Ytkkkgikmeiocaaa
open Go.RowKit
theorem fmt_yes {ws : List Nat} {n : Nat} (h : fitsP n (8 * ws.length)) : fmt ws n = fmtW ws.length n ∧ fmtE ws n = 0 := ⟨if_pos h, if_pos h⟩
theorem fmt_no {ws : List Nat} {n : Nat} (h : ¬ fitsP n (8 * ws.length)) : fmt ws n = ws ∧ fmtE ws n = 2 := ⟨if_neg h, if_neg h⟩
theorem fmt_len (ws : List Nat) (n : Nat) : (fmt ws n).length = ws.length := by unfold fmt; split; exact fmtW_len _ _; rfl
end Go.Proofs.Ytkkkgikmeiocaaa
namespace Go.Proofs.Ytkkkgikmeiocaaa
open Go.RowKit
theorem new48 (w : World) : Calls Try.prog 37 #[.int .u64 4800] w fun e w' => e = .returned (.pointer (some ⟨w.heap.size + 1, 0, none⟩)) ∧ w.grownBy w' none ∧ IsSeg w' (w.heap.size + 1) w.heap.size (List.replicate 600 0) := new_yes 600 (by decide) (by decide) w
theorem len48 (n : Nat) : (fmt (List.replicate 600 0) n).length = 600 := by rw [fmt_len, List.length_replicate]
section
variable {n : Nat}
end
theorem Txs.first {w0 w1 w2 w3 : World} {ws ws' : List Nat} (hg1 : w0.grownBy w1 none) (hg2 : w1.grownBy w2 none) (hs : IsSeg w2 (w1.heap.size + 1) w1.heap.size ws) {w2' : World} (hg2' : w2.grownBy w2' (some w1.heap.size)) (hg3 : w2'.grownBy w3 none)
    (ht : Thinks w3 (w2'.heap.size + 1) w2'.heap.size none (w1.heap.size + 1) w1.heap.size ws' []) : Txs w0 w3 (w2'.heap.size + 1) w2'.heap.size none (w1.heap.size + 1) w1.heap.size ws' [] := by
  have h1 := hg1.size
  have h2 := hg2.size
  have h3 := hg2'.size
  refine ⟨ht, grown_trans hg1 (grown_trans (grown_new (grown_trans (grown_any hg2 _) hg2') (Nat.le_refl _)) hg3), by omega, by omega, (fun g hg => by cases hg), by omega, by omega⟩
section
variable {w0 wm w w' : World} {T M : Nat} {R : Option Nat} {B D : Nat} {ws : List Nat} {l : List (Nat × Nat)} {T' M' : Nat} {R' : Option Nat} {l' l2 : List (Nat × Nat)}
end
end Go.Proofs.Ytkkkgikmeiocaaa
