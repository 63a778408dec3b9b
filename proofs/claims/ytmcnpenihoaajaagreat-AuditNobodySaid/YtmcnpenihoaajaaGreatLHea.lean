/-
  Texts of one layer, one behind the other: memory, contracts of the functions, and what follows of them.
  Conditions: as each theorem says.
-/
import Derived.Test.YtmcnpenihoaajaaGreatLSea
import Derived.Test.YtmcnpenihoaajaaGreatLWoa
import Derived.LoopTactic
import Derived.Deep.LoopGhost
import Derived.Laws.Bits64
import Derived.Test.YtmcnpenihoaajaaGreatLTxa
import Derived.Shelf.RegionOpen
import Derived.Deep.QuietTactic
import Derived.BigQuiet
import Derived.Deep.RegionHeld3
set_option linter.unusedVariables false
set_option linter.unusedSimpArgs false
namespace Go.Proofs.YtmcnpenihoaajaaGreat
open Go.RowKit
def sumN (n : Nat) : Nat := ((7161130718081542961 ^^^ n) * 11400714819323198485) % 18446744073709551616
theorem sumN_lt (n : Nat) : sumN n < 18446744073709551616 := Nat.mod_lt _ (by decide)
theorem sum_int (n : Nat) (hn : n < 18446744073709551616) : IntKind.u64.wrap (bits BinOp.xor IntKind.u64 7161130718081542961 (n : Int) * 11400714819323198485) = (sumN n : Nat) := by
  have h := bits_xor_u64_nat 7161130718081542961 n (by decide) hn
  rw [show ((7161130718081542961 : Nat) : Int) = 7161130718081542961 from rfl] at h
  rw [h, IntKind.wrap_u64]
  unfold sumN
  generalize 7161130718081542961 ^^^ n = x
  rw [Int.natCast_emod, Int.natCast_mul]
  rfl
theorem hsum_any (n : Nat) (hn : n < 18446744073709551616) (w : World) :
    Calls Tryz.prog 45 #[.int .u64 n] w fun e w' => e = .returned (.int .u64 (sumN n : Nat)) ∧ w = w' := by
  have hs := sum_int n hn
  go_enter Tryz.func45, Tryz.ntmps45
  go_wp2_with (first | (go_at_call 78; refine (mix_any _ _).mono ?_; rintro e w1 ⟨rfl, rfl⟩; rw [hs]))
  go_ret
  exact ⟨rfl, rfl⟩
def fitsP (n a : Nat) : Prop := n % 16 = 0 ∧ 3824 ≤ n ∧ n ≤ a
instance (n a : Nat) : Decidable (fitsP n a) := by unfold fitsP; infer_instance
theorem fits_any (n a : Nat) (w : World) :
    Calls Tryz.prog 17 #[.int .u64 n, .int .u64 a] w fun e w' => e = .returned (.bool (decide (fitsP n a))) ∧ w = w' := by
  by_cases h0 : (n : Int) % 16 = 0
  · by_cases h1 : 3824 ≤ (n : Int)
    · have hd : decide (fitsP n a) = decide (n ≤ a) := by rw [decide_eq_decide]; unfold fitsP; omega
      rw [hd]
      go_enter Tryz.func17, Tryz.ntmps17
      go_wp2
      go_ret
      exact ⟨rfl, rfl⟩
    · rw [decide_eq_false (show ¬ fitsP n a by unfold fitsP; omega)]
      go_enter Tryz.func17, Tryz.ntmps17
      go_wp2
      go_ret
      exact ⟨rfl, rfl⟩
  · rw [decide_eq_false (show ¬ fitsP n a by unfold fitsP; omega)]
    go_enter Tryz.func17, Tryz.ntmps17
    go_wp2
    go_ret
    exact ⟨rfl, rfl⟩
theorem rfits_any (n a : Nat) (w : World) :
    Calls Tryz.prog 15 #[.int .u64 n, .int .u64 a] w fun e w' => e = .returned (.bool (decide (fitsP n a))) ∧ w = w' := by
  by_cases h0 : (n : Int) % 16 = 0
  · by_cases h1 : 3824 ≤ (n : Int)
    · have hd : decide (fitsP n a) = decide (n ≤ a) := by rw [decide_eq_decide]; unfold fitsP; omega
      rw [hd]
      go_enter Tryz.func15, Tryz.ntmps15
      go_wp2
      go_ret
      exact ⟨rfl, rfl⟩
    · rw [decide_eq_false (show ¬ fitsP n a by unfold fitsP; omega)]
      go_enter Tryz.func15, Tryz.ntmps15
      go_wp2
      go_ret
      exact ⟨rfl, rfl⟩
  · rw [decide_eq_false (show ¬ fitsP n a by unfold fitsP; omega)]
    go_enter Tryz.func15, Tryz.ntmps15
    go_wp2
    go_ret
    exact ⟨rfl, rfl⟩
theorem must_any (n : Nat) (hn : n < 18446744073709551616) (w : World) :
    Calls Tryz.prog 20 #[.int .u64 n] w fun e w' => e = .returned (.agg #[.int .u64 0, .int .u64 7161130718081542961, .int .u64 8, .int .u64 1, .int .u64 16, .int .u64 n, .int .u64 40, .int .u64 (sumN n : Nat)]) ∧ w.grownBy w' none := by
  have hs := fun w => hsum_any n hn w
  go_enter Tryz.func20, Tryz.ntmps20
  go_wp2_with (first | (go_at_call 45; refine (hs _).mono ?_; rintro e w1 ⟨rfl, rfl⟩))
  refine bodyPost_ret (results_cell_row (by kernel_rfl : Tryz.f20.results = #[.cell 2 54]) _ _ w.heap.size 54 _ (0, 0) _ rfl (heap_alloc_new' _ _) Tryz.underlying54 rfl (by kernel_rfl)) rfl ?_
  exact ⟨rfl, World.grownBy_alloc _ _ _⟩
theorem whole_any (n : Nat) (hn : n < 18446744073709551616) (h : 3824 ≤ n) (w : World) :
    Calls Tryz.prog 21 #[.int .u64 n] w fun e w' => e = .returned (.agg #[.int .u64 32, .int .u64 3776, .int .u64 3776, .int .u64 (n - 3776 : Nat), .int .u64 (n - 8 : Nat), .int .u64 (n - 3776 : Nat)]) ∧ w.grownBy w' none := by
  have e1 : IntKind.u64.wrap ((n : Int) - 3776) = (n - 3776 : Nat) := by rw [IntKind.wrap_u64]; omega
  have e2 : IntKind.u64.wrap ((n : Int) - 8) = (n - 8 : Nat) := by rw [IntKind.wrap_u64]; omega
  go_enter Tryz.func21, Tryz.ntmps21
  go_wp2
  refine bodyPost_ret (results_cell_row (by kernel_rfl : Tryz.f21.results = #[.cell 2 56]) _ _ w.heap.size 56 _ (0, 0) _ rfl (heap_alloc_new' _ _) Tryz.underlying56 rfl (by kernel_rfl)) rfl ?_
  exact ⟨rfl, World.grownBy_alloc _ _ _⟩
theorem pair_new {wr w' : World} {a b : Value} {t : TypeId} (hg : (wr.alloc (.cells #[a, b] t)).grownBy w' none) : w'.cell? ⟨wr.heap.size, 0, none⟩ = some a ∧ w'.cell? ⟨wr.heap.size, 1, none⟩ = some b := by
  have h := (hg.block wr.heap.size (by rw [World.size_alloc]; omega) (by simp)).trans (heap_alloc_new' _ _)
  exact ⟨by simp [World.cell?, h], by simp [World.cell?, h]⟩
end Go.Proofs.YtmcnpenihoaajaaGreat
namespace Go.Proofs.YtmcnpenihoaajaaGreat
open Go.RowKit
theorem format_nil (n : Nat) (w : World) : Calls Tryz.prog 7 #[.pointer none, .int .u64 n] w fun e w' => e = .returned (.int .i64 1) ∧ w.grownBy w' none := by
  go_enter Tryz.func7, Tryz.ntmps7
  go_wp2
  go_ret
  exact ⟨rfl, World.grownBy_alloc _ _ _⟩
theorem fstore_any {w : World} {V B D : Nat} {ws : List Nat} (hV : w.cell? ⟨V, 0, none⟩ = some (.pointer (some ⟨B, 0, none⟩))) (hs : IsSeg w B D ws) (off v : Nat) (ho : off < 18446744073709551616) (hv : v < 18446744073709551616) :
    Calls Tryz.prog 19 #[.agg #[.int .u64 off, .int .u64 v], .pointer (some ⟨V, 0, none⟩)] w fun e w' => e = .returned (.tuple #[]) ∧ w.grownBy w' (some D) ∧ IsSeg w' B D (put ws off v) := by
  have hc := fun (w1 : World) (hg : w.grownBy w1 none) => store_any (hs.later hg) off v ho hv
  have hA : w.grownBy (w.alloc (.cells #[.int .u64 off, .int .u64 v] 31)) none := World.grownBy_alloc _ _ _
  have hV' := (World.cell?_of_block (w := w) (a := ⟨V, 0, none⟩) (hA.block V (World.block_lt_of_cell? w ⟨V, 0, none⟩ hV) (by simp))).trans hV
  obtain ⟨m0, m1⟩ := pair_new (grown_refl (w.alloc (.cells #[.int .u64 off, .int .u64 v] 31)) none)
  go_enter Tryz.func19, Tryz.ntmps19
  go_wp2_with (first | (go_at_call 8; (with_reducible refine (hc _ (World.grownBy_alloc _ _ _)).mono ?_); rintro e w1 ⟨rfl, hg1, hs1⟩))
  go_end0
  exact ⟨rfl, grown_trans (grown_any (World.grownBy_alloc _ _ _) _) hg1, hs1⟩
def zeroW (ws : List Nat) (k : Nat) : List Nat := List.replicate k 0 ++ ws.drop k
theorem zeroW_len (ws : List Nat) (k : Nat) (h : k ≤ ws.length) : (zeroW ws k).length = ws.length := by simp [zeroW]; omega
theorem zeroW_zero (ws : List Nat) : zeroW ws 0 = ws := by simp [zeroW]
theorem zeroW_all (ws : List Nat) : zeroW ws ws.length = List.replicate ws.length 0 := by simp [zeroW]
theorem zeroW_step (ws : List Nat) (k : Nat) (h : k < ws.length) : put (zeroW ws k) (8 * k) 0 = zeroW ws (k + 1) := by
  unfold put
  rw [if_pos ⟨by omega, by rw [zeroW_len ws k (by omega)]; omega⟩, show 8 * k / 8 = k by omega]
  unfold zeroW
  rw [List.set_append_right _ _ (by simp), List.length_replicate, Nat.sub_self, List.drop_eq_getElem_cons h, List.set_cons_zero, List.replicate_succ', List.append_assoc]
  rfl
def mustW (z : List Nat) (n : Nat) : Nat → List Nat
  | 0 => z
  | 1 => put z 0 7161130718081542961
  | 2 => put (put z 0 7161130718081542961) 8 1
  | 3 => put (put (put z 0 7161130718081542961) 8 1) 16 n
  | _ => put (put (put (put z 0 7161130718081542961) 8 1) 16 n) 40 (sumN n)
def wholeW (z : List Nat) (n : Nat) : Nat → List Nat
  | 0 => z
  | 1 => put z 32 3776
  | 2 => put (put z 32 3776) 3776 (n - 3776)
  | _ => put (put (put z 32 3776) 3776 (n - 3776)) (n - 8) (n - 3776)
def fmtW (K n : Nat) : List Nat := wholeW (mustW (List.replicate K 0) n 4) n 3
theorem mustW_len (z : List Nat) (n k : Nat) : (mustW z n k).length = z.length := by unfold mustW; split <;> simp [put_len]
theorem wholeW_len (z : List Nat) (n k : Nat) : (wholeW z n k).length = z.length := by unfold wholeW; split <;> simp [put_len]
theorem fmtW_len (K n : Nat) : (fmtW K n).length = K := by unfold fmtW; rw [wholeW_len, mustW_len, List.length_replicate]
def fmt (ws : List Nat) (n : Nat) : List Nat := if fitsP n (8 * ws.length) then fmtW ws.length n else ws
def fmtE (ws : List Nat) (n : Nat) : Nat := if fitsP n (8 * ws.length) then 0 else 2
structure FmtRel (w : World) (V B D : Nat) (ws : List Nat) (wr : World) : Prop where
  grown : w.grownBy wr (some D)
  box : wr.heap[V]? = some (.cells #[.pointer (some ⟨B, 0, none⟩)] 25 (0, 0))
  seg : IsSeg wr B D ws
section
variable {w wr w' : World} {V B D : Nat} {ws ws' : List Nat}
theorem FmtRel.later (h : FmtRel w V B D ws wr) (hg : wr.grownBy w' none) : FmtRel w V B D ws w' :=
  ⟨grown_trans h.grown (grown_any hg _), (hg.block V (lt_of_block h.box) (by simp)).trans h.box, h.seg.later hg⟩
theorem FmtRel.store (h : FmtRel w V B D ws wr) (hg : wr.grownBy w' (some D)) (hs : IsSeg w' B D ws') : FmtRel w V B D ws' w' :=
  ⟨grown_trans h.grown hg, (hg.block V (lt_of_block h.box) (by intro e; injection e with e; exact ne_type h.box h.seg.data (by decide) e)).trans h.box, hs⟩
theorem FmtRel.cell (h : FmtRel w V B D ws wr) : wr.cell? ⟨V, 0, none⟩ = some (.pointer (some ⟨B, 0, none⟩)) := cell_of_one h.box
end
section
variable {w : World} {B D : Nat} {ws : List Nat}
set_option maxHeartbeats 1000000 in
theorem format_any (h : IsSeg w B D ws) (n : Nat) (hn : n < 18446744073709551616) : Calls Tryz.prog 7 #[.pointer (some ⟨B, 0, none⟩), .int .u64 n] w fun e w' => e = .returned (.int .i64 (fmtE ws n : Nat)) ∧ w.grownBy w' (some D) ∧ IsSeg w' B D (fmt ws n) := by
  have hz := fun (w1 : World) (hs : IsSeg w1 B D ws) => size_any (.inr ⟨B, D, rfl, hs⟩)
  have hf := fun w => fits_any n (8 * ws.length) w
  have hm := fun w => must_any n hn w
  unfold fmtE fmt
  have hA : w.grownBy (w.alloc (.cells #[.pointer (some ⟨B, 0, none⟩)] 25)) none := World.grownBy_alloc _ _ _
  by_cases hfit : fitsP n (8 * ws.length)
  · rw [if_pos hfit, if_pos hfit]
    rw [decide_eq_true hfit] at hf
    obtain ⟨al, ea⟩ : ∃ x, 8 * ws.length = x := ⟨_, rfl⟩
    rw [ea] at hf
    simp only [ea] at hz
    go_enter Tryz.func7, Tryz.ntmps7
    go_wp2_with (first | (go_at_call 18; (with_reducible refine (hz _ (h.later hA)).mono ?_); rintro e w2 ⟨rfl, rfl⟩) | (go_at_call 17; (with_reducible refine (hf _).mono ?_); rintro e w2 ⟨rfl, rfl⟩))
    have i0 : ∀ w : World, (Instr.index 54 (.agg #[.int .u64 0, .int .u64 7161130718081542961, .int .u64 8, .int .u64 1, .int .u64 16, .int .u64 n, .int .u64 40, .int .u64 (sumN n : Nat)]) (.int .i64 0)).run Tryz.prog w = .ok (.agg #[.int .u64 0, .int .u64 7161130718081542961]) w := fun _ => by kernel_rfl
    have i1 : ∀ w : World, (Instr.index 54 (.agg #[.int .u64 0, .int .u64 7161130718081542961, .int .u64 8, .int .u64 1, .int .u64 16, .int .u64 n, .int .u64 40, .int .u64 (sumN n : Nat)]) (.int .i64 1)).run Tryz.prog w = .ok (.agg #[.int .u64 8, .int .u64 1]) w := fun _ => by kernel_rfl
    have i2 : ∀ w : World, (Instr.index 54 (.agg #[.int .u64 0, .int .u64 7161130718081542961, .int .u64 8, .int .u64 1, .int .u64 16, .int .u64 n, .int .u64 40, .int .u64 (sumN n : Nat)]) (.int .i64 2)).run Tryz.prog w = .ok (.agg #[.int .u64 16, .int .u64 n]) w := fun _ => by kernel_rfl
    have i3 : ∀ w : World, (Instr.index 54 (.agg #[.int .u64 0, .int .u64 7161130718081542961, .int .u64 8, .int .u64 1, .int .u64 16, .int .u64 n, .int .u64 40, .int .u64 (sumN n : Nat)]) (.int .i64 3)).run Tryz.prog w = .ok (.agg #[.int .u64 40, .int .u64 (sumN n : Nat)]) w := fun _ => by kernel_rfl
    have j0 : ∀ w : World, (Instr.index 56 (.agg #[.int .u64 32, .int .u64 3776, .int .u64 3776, .int .u64 (n - 3776 : Nat), .int .u64 (n - 8 : Nat), .int .u64 (n - 3776 : Nat)]) (.int .i64 0)).run Tryz.prog w = .ok (.agg #[.int .u64 32, .int .u64 3776]) w := fun _ => by kernel_rfl
    have j1 : ∀ w : World, (Instr.index 56 (.agg #[.int .u64 32, .int .u64 3776, .int .u64 3776, .int .u64 (n - 3776 : Nat), .int .u64 (n - 8 : Nat), .int .u64 (n - 3776 : Nat)]) (.int .i64 1)).run Tryz.prog w = .ok (.agg #[.int .u64 3776, .int .u64 (n - 3776 : Nat)]) w := fun _ => by kernel_rfl
    have j2 : ∀ w : World, (Instr.index 56 (.agg #[.int .u64 32, .int .u64 3776, .int .u64 3776, .int .u64 (n - 3776 : Nat), .int .u64 (n - 8 : Nat), .int .u64 (n - 3776 : Nat)]) (.int .i64 2)).run Tryz.prog w = .ok (.agg #[.int .u64 (n - 8 : Nat), .int .u64 (n - 3776 : Nat)]) w := fun _ => by kernel_rfl
    have R0 : FmtRel w w.heap.size B D (zeroW ws 0) (w.alloc (.cells #[.pointer (some ⟨B, 0, none⟩)] 25)) := ⟨grown_any hA _, heap_alloc_new' _ _, by rw [zeroW_zero]; exact h.later hA⟩
    obtain ⟨V, hV⟩ : ∃ V, w.heap.size = V := ⟨_, rfl⟩
    rw [hV] at R0 ⊢
    have EA := Lib.hid ea
    have hmost := h.most
    have hm1 : al ≤ 1048576 := by omega
    clear hV ea hz
    go_loopw [6] (fun i wr => ∃ k off : Nat, k ≤ ws.length ∧ Hid (off = 8 * k) ∧ i = .int .u64 off ∧ FmtRel w V B D (zeroW ws k) wr) (fun i _ => al - (intOf i).toNat)
    case atStart => exact ⟨0, 0, Nat.zero_le _, Lib.hid rfl, rfl, R0⟩
    case round =>
      obtain ⟨k, off, hk, HO, rfl, R⟩ := hrel
      have hoff := HO.out
      have hz : Calls Tryz.prog 18 #[.pointer (some ⟨B, 0, none⟩)] wr _ := size_any (.inr ⟨B, D, rfl, R.seg⟩)
      rw [zeroW_len ws k hk, EA.out] at hz
      have hcb := R.cell
      clear R0
      by_cases hlt : off < al
      · have hst := fstore_any R.cell R.seg off 0 (by omega) (by decide)
        have hkl : k < ws.length := by have := EA.out; omega
        rw [hoff, zeroW_step ws k hkl, ← hoff] at hst
        have hlt' : (off : Int) < (al : Int) := by omega
        clear hoff
        go_wp2_with (first | (go_at_call 18; (with_reducible refine hz.mono ?_); rintro e w2 ⟨rfl, rfl⟩) | (go_at_call 19; refine hst.mono ?_; rintro e w3 ⟨rfl, hg3, hs3⟩))
        go_roundw
        case rel => exact ⟨k + 1, off + 8, by omega, Lib.hid (by have := HO.out; omega), by go_num, R.store hg3 hs3⟩
        case measure => simp [intOf]; omega
      · obtain rfl : k = ws.length := by have := EA.out; omega
        have hlt' : ¬ (off : Int) < (al : Int) := by omega
        rw [zeroW_all] at R
        have hw := fun w => whole_any n hn hfit.2.1 w
        clear hoff
        go_wp2_with (first | (go_at_call 18; (with_reducible refine hz.mono ?_); rintro e w2 ⟨rfl, rfl⟩) | (go_at_call 20; (with_reducible refine (hm _).mono ?_); rintro e w4 ⟨rfl, hg4⟩))
        have R4 := R.later hg4
        obtain ⟨z, ez⟩ : ∃ z, List.replicate ws.length 0 = z := ⟨_, rfl⟩
        rw [ez] at R4
        have EZ := Lib.hid ez
        have hfit2 := hfit.2.1
        clear R hz hcb hlt hk HO ez hfit hg4
        go_loopw [31] (fun i wr => ∃ k : Nat, k ≤ 4 ∧ i = .int .i64 k ∧ FmtRel w V B D (mustW z n k) wr) (fun i _ => 4 - (intOf i).toNat)
        case atStart => exact ⟨0, by omega, rfl, R4⟩
        case round =>
          obtain ⟨k, hk, rfl, R⟩ := hrel
          clear R4
          have hcb := R.cell
          rcases k with _ | _ | _ | _ | k
          · have hst : ∀ w1, wr.grownBy w1 none → Calls Tryz.prog 19 #[.agg #[.int .u64 0, .int .u64 7161130718081542961], .pointer (some ⟨V, 0, none⟩)] w1 fun e w' => e = .returned (.tuple #[]) ∧ w1.grownBy w' (some D) ∧ IsSeg w' B D (mustW z n 1) := fun w1 hg => fstore_any (R.later hg).cell (R.later hg).seg 0 7161130718081542961 (by decide) (by decide)
            obtain ⟨m0, m1⟩ := pair_new (grown_refl (wr.alloc (.cells #[.int .u64 0, .int .u64 7161130718081542961] 31)) none)
            have HA : wr.grownBy (wr.alloc (.cells #[.int .u64 0, .int .u64 7161130718081542961] 31)) none := World.grownBy_alloc _ _ _
            go_wp2_with (first | (go_at_call 19; (with_reducible refine (hst _ HA).mono ?_); rintro e w5 ⟨rfl, hg5, hs5⟩))
            exact ⟨⟨1, by omega, rfl, (R.later HA).store hg5 hs5⟩, by simp [intOf]⟩
          · have hst : ∀ w1, wr.grownBy w1 none → Calls Tryz.prog 19 #[.agg #[.int .u64 8, .int .u64 1], .pointer (some ⟨V, 0, none⟩)] w1 fun e w' => e = .returned (.tuple #[]) ∧ w1.grownBy w' (some D) ∧ IsSeg w' B D (mustW z n 2) := fun w1 hg => fstore_any (R.later hg).cell (R.later hg).seg 8 1 (by decide) (by decide)
            obtain ⟨m0, m1⟩ := pair_new (grown_refl (wr.alloc (.cells #[.int .u64 8, .int .u64 1] 31)) none)
            have HA : wr.grownBy (wr.alloc (.cells #[.int .u64 8, .int .u64 1] 31)) none := World.grownBy_alloc _ _ _
            go_wp2_with (first | (go_at_call 19; (with_reducible refine (hst _ HA).mono ?_); rintro e w5 ⟨rfl, hg5, hs5⟩))
            exact ⟨⟨2, by omega, rfl, (R.later HA).store hg5 hs5⟩, by simp [intOf]⟩
          · have hst : ∀ w1, wr.grownBy w1 none → Calls Tryz.prog 19 #[.agg #[.int .u64 16, .int .u64 n], .pointer (some ⟨V, 0, none⟩)] w1 fun e w' => e = .returned (.tuple #[]) ∧ w1.grownBy w' (some D) ∧ IsSeg w' B D (mustW z n 3) := fun w1 hg => fstore_any (R.later hg).cell (R.later hg).seg 16 n (by decide) hn
            obtain ⟨m0, m1⟩ := pair_new (grown_refl (wr.alloc (.cells #[.int .u64 16, .int .u64 n] 31)) none)
            have HA : wr.grownBy (wr.alloc (.cells #[.int .u64 16, .int .u64 n] 31)) none := World.grownBy_alloc _ _ _
            go_wp2_with (first | (go_at_call 19; (with_reducible refine (hst _ HA).mono ?_); rintro e w5 ⟨rfl, hg5, hs5⟩))
            exact ⟨⟨3, by omega, rfl, (R.later HA).store hg5 hs5⟩, by simp [intOf]⟩
          · have hst : ∀ w1, wr.grownBy w1 none → Calls Tryz.prog 19 #[.agg #[.int .u64 40, .int .u64 (sumN n : Nat)], .pointer (some ⟨V, 0, none⟩)] w1 fun e w' => e = .returned (.tuple #[]) ∧ w1.grownBy w' (some D) ∧ IsSeg w' B D (mustW z n 4) := fun w1 hg => fstore_any (R.later hg).cell (R.later hg).seg 40 (sumN n) (by decide) (sumN_lt n)
            obtain ⟨m0, m1⟩ := pair_new (grown_refl (wr.alloc (.cells #[.int .u64 40, .int .u64 (sumN n : Nat)] 31)) none)
            have HA : wr.grownBy (wr.alloc (.cells #[.int .u64 40, .int .u64 (sumN n : Nat)] 31)) none := World.grownBy_alloc _ _ _
            go_wp2_with (first | (go_at_call 19; (with_reducible refine (hst _ HA).mono ?_); rintro e w5 ⟨rfl, hg5, hs5⟩))
            exact ⟨⟨4, by omega, rfl, (R.later HA).store hg5 hs5⟩, by simp [intOf]⟩
          · obtain rfl : k = 0 := by omega
            go_wp2_with (first | (go_at_call 21; (with_reducible refine (hw _).mono ?_); rintro e w6 ⟨rfl, hg6⟩))
            have R6 := R.later hg6
            obtain ⟨y, ey⟩ : ∃ y, mustW z n (0 + 1 + 1 + 1 + 1) = y := ⟨_, rfl⟩
            rw [ey] at R6
            have hy : wholeW y n 3 = fmtW ws.length n := by rw [← ey, ← EZ.out]; rfl
            have HY := Lib.hid hy
            clear R hcb hk ey hg6 hy
            go_loopw [40] (fun i wr => ∃ k : Nat, k ≤ 3 ∧ i = .int .i64 k ∧ FmtRel w V B D (wholeW y n k) wr) (fun i _ => 3 - (intOf i).toNat)
            case atStart => exact ⟨0, by omega, rfl, R6⟩
            case round =>
              obtain ⟨k, hk, rfl, R⟩ := hrel
              clear R6
              have hcb := R.cell
              rcases k with _ | _ | _ | k
              · have hst : ∀ w1, wr.grownBy w1 none → Calls Tryz.prog 19 #[.agg #[.int .u64 32, .int .u64 3776], .pointer (some ⟨V, 0, none⟩)] w1 fun e w' => e = .returned (.tuple #[]) ∧ w1.grownBy w' (some D) ∧ IsSeg w' B D (wholeW y n 1) := fun w1 hg => fstore_any (R.later hg).cell (R.later hg).seg 32 3776 (by decide) (by decide)
                obtain ⟨m0, m1⟩ := pair_new (grown_refl (wr.alloc (.cells #[.int .u64 32, .int .u64 3776] 31)) none)
                have HA : wr.grownBy (wr.alloc (.cells #[.int .u64 32, .int .u64 3776] 31)) none := World.grownBy_alloc _ _ _
                go_wp2_with (first | (go_at_call 19; (with_reducible refine (hst _ HA).mono ?_); rintro e w7 ⟨rfl, hg7, hs7⟩))
                exact ⟨⟨1, by omega, rfl, (R.later HA).store hg7 hs7⟩, by simp [intOf]⟩
              · have hst : ∀ w1, wr.grownBy w1 none → Calls Tryz.prog 19 #[.agg #[.int .u64 3776, .int .u64 (n - 3776 : Nat)], .pointer (some ⟨V, 0, none⟩)] w1 fun e w' => e = .returned (.tuple #[]) ∧ w1.grownBy w' (some D) ∧ IsSeg w' B D (wholeW y n 2) := fun w1 hg => fstore_any (R.later hg).cell (R.later hg).seg 3776 (n - 3776) (by decide) (by omega)
                obtain ⟨m0, m1⟩ := pair_new (grown_refl (wr.alloc (.cells #[.int .u64 3776, .int .u64 (n - 3776 : Nat)] 31)) none)
                have HA : wr.grownBy (wr.alloc (.cells #[.int .u64 3776, .int .u64 (n - 3776 : Nat)] 31)) none := World.grownBy_alloc _ _ _
                go_wp2_with (first | (go_at_call 19; (with_reducible refine (hst _ HA).mono ?_); rintro e w7 ⟨rfl, hg7, hs7⟩))
                exact ⟨⟨2, by omega, rfl, (R.later HA).store hg7 hs7⟩, by simp [intOf]⟩
              · have hst : ∀ w1, wr.grownBy w1 none → Calls Tryz.prog 19 #[.agg #[.int .u64 (n - 8 : Nat), .int .u64 (n - 3776 : Nat)], .pointer (some ⟨V, 0, none⟩)] w1 fun e w' => e = .returned (.tuple #[]) ∧ w1.grownBy w' (some D) ∧ IsSeg w' B D (wholeW y n 3) := fun w1 hg => fstore_any (R.later hg).cell (R.later hg).seg (n - 8) (n - 3776) (by omega) (by omega)
                obtain ⟨m0, m1⟩ := pair_new (grown_refl (wr.alloc (.cells #[.int .u64 (n - 8 : Nat), .int .u64 (n - 3776 : Nat)] 31)) none)
                have HA : wr.grownBy (wr.alloc (.cells #[.int .u64 (n - 8 : Nat), .int .u64 (n - 3776 : Nat)] 31)) none := World.grownBy_alloc _ _ _
                go_wp2_with (first | (go_at_call 19; (with_reducible refine (hst _ HA).mono ?_); rintro e w7 ⟨rfl, hg7, hs7⟩))
                exact ⟨⟨3, by omega, rfl, (R.later HA).store hg7 hs7⟩, by simp [intOf]⟩
              · obtain rfl : k = 0 := by omega
                go_wp2
                go_ret
                have hs := R.seg
                rw [HY.out] at hs
                exact ⟨rfl, R.grown, hs⟩
  · rw [if_neg hfit, if_neg hfit]
    rw [decide_eq_false hfit] at hf
    obtain ⟨al, ea⟩ : ∃ x, 8 * ws.length = x := ⟨_, rfl⟩
    rw [ea] at hf
    simp only [ea] at hz
    go_enter Tryz.func7, Tryz.ntmps7
    go_wp2_with (first | (go_at_call 18; (with_reducible refine (hz _ (h.later hA)).mono ?_); rintro e w2 ⟨rfl, rfl⟩) | (go_at_call 17; (with_reducible refine (hf _).mono ?_); rintro e w2 ⟨rfl, rfl⟩))
    go_ret
    exact ⟨rfl, grown_any hA _, h.later hA⟩
end
end Go.Proofs.YtmcnpenihoaajaaGreat
namespace Go.Proofs.YtmcnpenihoaajaaGreat
open Go.RowKit
section
variable {w : World} {T M : Nat} {R : Option Nat} {B D : Nat} {ws : List Nat} {l : List (Nat × Nat)}
theorem hsize_any (h : Thinks w T M R B D ws l) : Calls Tryz.prog 33 #[.pointer (some ⟨T, 0, none⟩)] w fun e w' => e = .returned (.int .u64 (txSee ws l 16 : Nat)) ∧ w.grownBy w' none := by
  have hc : Calls Tryz.prog 66 #[.pointer (some ⟨T, 0, none⟩), .int .u64 16] w _ := txload_any h 16 (by decide)
  go_enter Tryz.func33, Tryz.ntmps33
  go_wp2_with (go_at_call 66; (with_reducible refine hc.mono ?_); rintro e w1 ⟨rfl, hg1⟩)
  go_ret
  exact ⟨rfl, hg1⟩
theorem hroot_any (h : Thinks w T M R B D ws l) : Calls Tryz.prog 82 #[.pointer (some ⟨T, 0, none⟩)] w fun e w' => e = .returned (.int .u64 (txSee ws l 32 : Nat)) ∧ w.grownBy w' none := by
  have hc : Calls Tryz.prog 66 #[.pointer (some ⟨T, 0, none⟩), .int .u64 32] w _ := txload_any h 32 (by decide)
  go_enter Tryz.func82, Tryz.ntmps82
  go_wp2_with (go_at_call 66; (with_reducible refine hc.mono ?_); rintro e w1 ⟨rfl, hg1⟩)
  go_ret
  exact ⟨rfl, hg1⟩
end
theorem hsize_nil (w : World) : Calls Tryz.prog 33 #[.pointer none] w fun e w' => e = .returned (.int .u64 0) ∧ w = w' := by
  have hc : Calls Tryz.prog 66 #[.pointer none, .int .u64 16] w _ := txload_nil 16 w
  go_enter Tryz.func33, Tryz.ntmps33
  go_wp2_with (go_at_call 66; (with_reducible refine hc.mono ?_); rintro e w1 ⟨rfl, rfl⟩)
  go_ret
  exact ⟨rfl, rfl⟩
theorem hcheck_nil (w : World) : Calls Tryz.prog 79 #[.pointer none] w fun e w' => e = .returned (.int .i64 12) ∧ w.grownBy w' none := by
  have hc := hsize_nil w
  have hz : ∀ w, Calls Tryz.prog 118 #[.pointer none] w _ := fun w => txsize_nil w
  have hf : ∀ w, Calls Tryz.prog 17 #[.int .u64 0, .int .u64 0] w _ := fun w => fits_any 0 0 w
  rw [show decide (fitsP 0 0) = false by decide] at hf
  go_enter Tryz.func79, Tryz.ntmps79
  go_wp2_with (first | (go_at_call 33; (with_reducible refine hc.mono ?_); rintro e w1 ⟨rfl, rfl⟩) | (go_at_call 118; (with_reducible refine (hz _).mono ?_); rintro e w1 ⟨rfl, rfl⟩) | (go_at_call 17; (with_reducible refine (hf _).mono ?_); rintro e w1 ⟨rfl, rfl⟩))
  go_ret
  exact ⟨rfl, grown_refl _ _⟩
def chkP (ws : List Nat) (l : List (Nat × Nat)) : Prop := fitsP (txSee ws l 16) (8 * ws.length) ∧ txSee ws l 0 = 7161130718081542961 ∧ txSee ws l 8 = 1 ∧ txSee ws l 40 = sumN (txSee ws l 16)
instance (ws : List Nat) (l : List (Nat × Nat)) : Decidable (chkP ws l) := by unfold chkP; infer_instance
def chkN (ws : List Nat) (l : List (Nat × Nat)) : Nat := if chkP ws l then 0 else 12
section
variable {w : World} {T M : Nat} {R : Option Nat} {B D : Nat} {ws : List Nat} {l : List (Nat × Nat)}
theorem hcheck_any (h : Thinks w T M R B D ws l) : Calls Tryz.prog 79 #[.pointer (some ⟨T, 0, none⟩)] w fun e w' => e = .returned (.int .i64 (chkN ws l : Nat)) ∧ w.grownBy w' none := by
  have hok : ∀ off, txSee ws l off < 18446744073709551616 := fun off => txSee_lt h.seg.words h.ok off
  have hc := fun (w1 : World) (hg : w.grownBy w1 none) => hsize_any (h.later hg)
  have hz := fun (w1 : World) (hg : w.grownBy w1 none) => txsize_any (h.later hg)
  have hf := fun w => fits_any (txSee ws l 16) (8 * ws.length) w
  have hm := fun w => must_any (txSee ws l 16) (hok _) w
  have hl0 : ∀ (w1 : World) (hg : w.grownBy w1 none), Calls Tryz.prog 66 #[.pointer (some ⟨T, 0, none⟩), .int .u64 0] w1 _ := fun w1 hg => txload_any (h.later hg) 0 (by decide)
  have hl1 : ∀ (w1 : World) (hg : w.grownBy w1 none), Calls Tryz.prog 66 #[.pointer (some ⟨T, 0, none⟩), .int .u64 8] w1 _ := fun w1 hg => txload_any (h.later hg) 8 (by decide)
  have hl2 : ∀ (w1 : World) (hg : w.grownBy w1 none), Calls Tryz.prog 66 #[.pointer (some ⟨T, 0, none⟩), .int .u64 16] w1 _ := fun w1 hg => txload_any (h.later hg) 16 (by decide)
  have hl3 : ∀ (w1 : World) (hg : w.grownBy w1 none), Calls Tryz.prog 66 #[.pointer (some ⟨T, 0, none⟩), .int .u64 40] w1 _ := fun w1 hg => txload_any (h.later hg) 40 (by decide)
  have hchk : chkN ws l = if chkP ws l then 0 else 12 := rfl
  unfold chkP at hchk
  have hx2 := hok 16
  obtain ⟨x0, e0⟩ : ∃ x, txSee ws l 0 = x := ⟨_, rfl⟩
  obtain ⟨x1, e1⟩ : ∃ x, txSee ws l 8 = x := ⟨_, rfl⟩
  obtain ⟨x2, e2⟩ : ∃ x, txSee ws l 16 = x := ⟨_, rfl⟩
  obtain ⟨x3, e3⟩ : ∃ x, txSee ws l 40 = x := ⟨_, rfl⟩
  obtain ⟨al, ea⟩ : ∃ x, 8 * ws.length = x := ⟨_, rfl⟩
  obtain ⟨sm, es⟩ : ∃ x, sumN x2 = x := ⟨_, rfl⟩
  obtain ⟨c, ec⟩ : ∃ x, chkN ws l = x := ⟨_, rfl⟩
  simp only [e0, e1, e2, e3, es, ec, ea] at hc hz hf hm hl0 hl1 hl2 hl3 hchk hx2 ⊢
  clear e0 e1 e2 e3 es ec ea hok
  have i0 : ∀ w : World, (Instr.index 54 (.agg #[.int .u64 0, .int .u64 7161130718081542961, .int .u64 8, .int .u64 1, .int .u64 16, .int .u64 x2, .int .u64 40, .int .u64 sm]) (.int .i64 0)).run Tryz.prog w = .ok (.agg #[.int .u64 0, .int .u64 7161130718081542961]) w := fun _ => by kernel_rfl
  have i1 : ∀ w : World, (Instr.index 54 (.agg #[.int .u64 0, .int .u64 7161130718081542961, .int .u64 8, .int .u64 1, .int .u64 16, .int .u64 x2, .int .u64 40, .int .u64 sm]) (.int .i64 1)).run Tryz.prog w = .ok (.agg #[.int .u64 8, .int .u64 1]) w := fun _ => by kernel_rfl
  have i2 : ∀ w : World, (Instr.index 54 (.agg #[.int .u64 0, .int .u64 7161130718081542961, .int .u64 8, .int .u64 1, .int .u64 16, .int .u64 x2, .int .u64 40, .int .u64 sm]) (.int .i64 2)).run Tryz.prog w = .ok (.agg #[.int .u64 16, .int .u64 x2]) w := fun _ => by kernel_rfl
  have i3 : ∀ w : World, (Instr.index 54 (.agg #[.int .u64 0, .int .u64 7161130718081542961, .int .u64 8, .int .u64 1, .int .u64 16, .int .u64 x2, .int .u64 40, .int .u64 sm]) (.int .i64 3)).run Tryz.prog w = .ok (.agg #[.int .u64 40, .int .u64 sm]) w := fun _ => by kernel_rfl
  by_cases hfit : fitsP x2 al
  · rw [decide_eq_true hfit] at hf
    go_enter Tryz.func79, Tryz.ntmps79
    go_wp2_with (first | (go_at_call 33; (with_reducible refine (hc _ (grown_refl _ _)).mono ?_); rintro e w1 ⟨rfl, hg1⟩) | (go_at_call 118; (with_reducible refine (hz _ hg1).mono ?_); rintro e w2 ⟨rfl, rfl⟩) | (go_at_call 17; (with_reducible refine (hf _).mono ?_); rintro e w2 ⟨rfl, rfl⟩) | (go_at_call 20; (with_reducible refine (hm _).mono ?_); rintro e w3 ⟨rfl, hg3⟩))
    go_loopw [15] (fun i wr => ∃ k : Nat, k ≤ 4 ∧ i = .int .i64 k ∧ w.grownBy wr none ∧ (0 < k → x0 = 7161130718081542961) ∧ (1 < k → x1 = 1) ∧ (3 < k → x3 = sm)) (fun i _ => 4 - (intOf i).toNat)
    case atStart => exact ⟨0, by omega, rfl, grown_trans hg1 hg3, by omega, by omega, by omega⟩
    case round =>
      obtain ⟨k, hk, rfl, hg, k0, k1, k3⟩ := hrel
      clear hc hz hf hm hg1 hg3
      rcases k with _ | _ | _ | _ | k
      · go_wp2
        have HA : wr.grownBy (wr.alloc (.cells #[.int .u64 0, .int .u64 7161130718081542961] 31)) none := World.grownBy_alloc _ _ _
        have HG : (wr.alloc (.cells #[.int .u64 0, .int .u64 7161130718081542961] 31)).grownBy (wr.alloc (.cells #[.int .u64 0, .int .u64 7161130718081542961] 31)).drew none := grown_drew (grown_refl _ _)
        obtain ⟨m0, m1⟩ := pair_new HG
        go_region_held3 (fun w' => w'.cell? ⟨wr.heap.size, 0, none⟩ = some (.int .u64 0) ∧ w'.cell? ⟨wr.heap.size, 1, none⟩ = some (.int .u64 7161130718081542961)) (go_keep) (first | (go_at_call 66; ((with_reducible refine (hl0 _ (grown_trans (grown_trans hg HA) HG)).mono ?_); rintro e w9 ⟨rfl, hg9⟩; replace HG := grown_trans HG hg9; obtain ⟨m0, m1⟩ := pair_new HG)))
        rcases Nat.decEq x0 7161130718081542961 with hne | heq
        · have e2 : ((x0 : Int) != (7161130718081542961 : Int)) = true := by rw [bne_iff_ne]; omega
          rw [if_neg (fun h => hne (by omega))] at hchk
          subst hchk
          go_wp2
          go_ret
          exact ⟨rfl, grown_trans (grown_trans hg HA) HG⟩
        · have e2 : ((x0 : Int) != (7161130718081542961 : Int)) = false := by rw [bne_eq_false_iff_eq]; omega
          go_wp2
          exact ⟨⟨1, by omega, rfl, grown_trans (grown_trans hg HA) HG, by omega, by omega, by omega⟩, by simp [intOf]⟩
      · go_wp2
        have HA : wr.grownBy (wr.alloc (.cells #[.int .u64 8, .int .u64 1] 31)) none := World.grownBy_alloc _ _ _
        have HG : (wr.alloc (.cells #[.int .u64 8, .int .u64 1] 31)).grownBy (wr.alloc (.cells #[.int .u64 8, .int .u64 1] 31)).drew none := grown_drew (grown_refl _ _)
        obtain ⟨m0, m1⟩ := pair_new HG
        go_region_held3 (fun w' => w'.cell? ⟨wr.heap.size, 0, none⟩ = some (.int .u64 8) ∧ w'.cell? ⟨wr.heap.size, 1, none⟩ = some (.int .u64 1)) (go_keep) (first | (go_at_call 66; ((with_reducible refine (hl1 _ (grown_trans (grown_trans hg HA) HG)).mono ?_); rintro e w9 ⟨rfl, hg9⟩; replace HG := grown_trans HG hg9; obtain ⟨m0, m1⟩ := pair_new HG)))
        rcases Nat.decEq x1 1 with hne | heq
        · have e2 : ((x1 : Int) != (1 : Int)) = true := by rw [bne_iff_ne]; omega
          rw [if_neg (fun h => hne (by omega))] at hchk
          subst hchk
          go_wp2
          go_ret
          exact ⟨rfl, grown_trans (grown_trans hg HA) HG⟩
        · have e2 : ((x1 : Int) != (1 : Int)) = false := by rw [bne_eq_false_iff_eq]; omega
          go_wp2
          exact ⟨⟨2, by omega, rfl, grown_trans (grown_trans hg HA) HG, by omega, by omega, by omega⟩, by simp [intOf]⟩
      · go_wp2
        have HA : wr.grownBy (wr.alloc (.cells #[.int .u64 16, .int .u64 x2] 31)) none := World.grownBy_alloc _ _ _
        have HG : (wr.alloc (.cells #[.int .u64 16, .int .u64 x2] 31)).grownBy (wr.alloc (.cells #[.int .u64 16, .int .u64 x2] 31)).drew none := grown_drew (grown_refl _ _)
        obtain ⟨m0, m1⟩ := pair_new HG
        go_region_held3 (fun w' => w'.cell? ⟨wr.heap.size, 0, none⟩ = some (.int .u64 16) ∧ w'.cell? ⟨wr.heap.size, 1, none⟩ = some (.int .u64 x2)) (go_keep) (first | (go_at_call 66; ((with_reducible refine (hl2 _ (grown_trans (grown_trans hg HA) HG)).mono ?_); rintro e w9 ⟨rfl, hg9⟩; replace HG := grown_trans HG hg9; obtain ⟨m0, m1⟩ := pair_new HG)))
        have e2 : ((x2 : Int) != (x2 : Int)) = false := by simp
        go_wp2
        exact ⟨⟨3, by omega, rfl, grown_trans (grown_trans hg HA) HG, by omega, by omega, by omega⟩, by simp [intOf]⟩
      · go_wp2
        have HA : wr.grownBy (wr.alloc (.cells #[.int .u64 40, .int .u64 sm] 31)) none := World.grownBy_alloc _ _ _
        have HG : (wr.alloc (.cells #[.int .u64 40, .int .u64 sm] 31)).grownBy (wr.alloc (.cells #[.int .u64 40, .int .u64 sm] 31)).drew none := grown_drew (grown_refl _ _)
        obtain ⟨m0, m1⟩ := pair_new HG
        go_region_held3 (fun w' => w'.cell? ⟨wr.heap.size, 0, none⟩ = some (.int .u64 40) ∧ w'.cell? ⟨wr.heap.size, 1, none⟩ = some (.int .u64 sm)) (go_keep) (first | (go_at_call 66; ((with_reducible refine (hl3 _ (grown_trans (grown_trans hg HA) HG)).mono ?_); rintro e w9 ⟨rfl, hg9⟩; replace HG := grown_trans HG hg9; obtain ⟨m0, m1⟩ := pair_new HG)))
        rcases Nat.decEq x3 sm with hne | heq
        · have e2 : ((x3 : Int) != (sm : Int)) = true := by rw [bne_iff_ne]; omega
          rw [if_neg (fun h => hne (by omega))] at hchk
          subst hchk
          go_wp2
          go_ret
          exact ⟨rfl, grown_trans (grown_trans hg HA) HG⟩
        · have e2 : ((x3 : Int) != (sm : Int)) = false := by rw [bne_eq_false_iff_eq]; omega
          go_wp2
          exact ⟨⟨4, by omega, rfl, grown_trans (grown_trans hg HA) HG, by omega, by omega, by omega⟩, by simp [intOf]⟩
      · obtain rfl : k = 0 := by omega
        rw [if_pos ⟨hfit, k0 (by omega), k1 (by omega), k3 (by omega)⟩] at hchk
        subst hchk
        go_wp2
        go_ret
        exact ⟨rfl, hg⟩
  · rw [decide_eq_false hfit] at hf
    rw [if_neg (fun h => hfit h.1)] at hchk
    subst hchk
    go_enter Tryz.func79, Tryz.ntmps79
    go_wp2_with (first | (go_at_call 33; (with_reducible refine (hc _ (grown_refl _ _)).mono ?_); rintro e w1 ⟨rfl, hg1⟩) | (go_at_call 118; (with_reducible refine (hz _ hg1).mono ?_); rintro e w2 ⟨rfl, rfl⟩) | (go_at_call 17; (with_reducible refine (hf _).mono ?_); rintro e w2 ⟨rfl, rfl⟩))
    go_ret
    exact ⟨rfl, hg1⟩
end
end Go.Proofs.YtmcnpenihoaajaaGreat
namespace Go.Proofs.YtmcnpenihoaajaaGreat
open Go.RowKit
theorem fmtW_def (K n : Nat) : fmtW K n = put (put (put (put (put (put (put (List.replicate K 0) 0 7161130718081542961) 8 1) 16 n) 40 (sumN n)) 32 3776) 3776 (n - 3776)) (n - 8) (n - 3776) := rfl
theorem getW_zeros (K off : Nat) : getW (List.replicate K 0) off = 0 := by
  unfold getW
  split
  · rw [List.getD_eq_getElem?_getD, List.getElem?_replicate]
    split <;> rfl
  · rfl
theorem getW_fmt {K n : Nat} (h : fitsP n (8 * K)) (off : Nat) : getW (fmtW K n) off = if off = n - 8 then n - 3776 else if off = 3776 then n - 3776 else if off = 32 then 3776 else if off = 40 then sumN n else if off = 16 then n else if off = 8 then 1 else if off = 0 then 7161130718081542961 else 0 := by
  obtain ⟨h1, h2, h3⟩ := h
  have st : ∀ {z : List Nat} (x : Nat), z.length = K → x % 8 = 0 → x < 3824 → stands z x := fun x hz hx hx2 => ⟨hx, by rw [hz]; omega⟩
  rw [fmtW_def]
  rw [getW_put' _ _ ⟨by omega, by simp only [put_len, List.length_replicate]; omega⟩]
  rw [getW_put' _ _ (st 3776 (by simp only [put_len, List.length_replicate]) (by decide) (by decide))]
  rw [getW_put' _ _ (st 32 (by simp only [put_len, List.length_replicate]) (by decide) (by decide))]
  rw [getW_put' _ _ (st 40 (by simp only [put_len, List.length_replicate]) (by decide) (by decide))]
  rw [getW_put' _ _ (st 16 (by simp only [put_len, List.length_replicate]) (by decide) (by decide))]
  rw [getW_put' _ _ (st 8 (by simp only [put_len, List.length_replicate]) (by decide) (by decide))]
  rw [getW_put' _ _ (st 0 (by simp only [List.length_replicate]) (by decide) (by decide)), getW_zeros]
theorem OwnW.set {w : World} {base g cp : Nat} {ws : List Nat} (hown : OwnW w base (.slice (some ⟨g, 0, none⟩) ws.length cp) ws) (q x : Nat) :
    OwnW (w.setCell ⟨g, q, none⟩ (.int .u64 (x : Nat))) base (.slice (some ⟨g, 0, none⟩) (ws.set q x).length cp) (ws.set q x) := by
  have hs := World.ownsRow.stored hown q (.int .u64 (x : Nat))
  have e : (cellsU ws).set q (.int .u64 (x : Nat)) = cellsU (ws.set q x) := by simp [cellsU, List.map_set]
  unfold OwnW
  rw [List.length_set, ← e]
  exact hs.1
end Go.Proofs.YtmcnpenihoaajaaGreat
namespace Go.Proofs.YtmcnpenihoaajaaGreat
open Go.RowKit
theorem see_nil (ws : List Nat) (off : Nat) : txSee ws [] off = getW ws off := rfl
end Go.Proofs.YtmcnpenihoaajaaGreat
namespace Go.Proofs.YtmcnpenihoaajaaGreat
open Go.RowKit
theorem chk_fmt {K n : Nat} (h : fitsP n (8 * K)) : chkP (fmtW K n) [] := by
  have h2 := h.2.1
  have e0 : txSee (fmtW K n) [] 0 = 7161130718081542961 := by rw [see_nil, getW_fmt h]; simp; omega
  have e1 : txSee (fmtW K n) [] 8 = 1 := by rw [see_nil, getW_fmt h]; simp; omega
  have e2 : txSee (fmtW K n) [] 16 = n := by rw [see_nil, getW_fmt h]; simp; omega
  have e5 : txSee (fmtW K n) [] 40 = sumN n := by rw [see_nil, getW_fmt h]; simp; omega
  unfold chkP
  rw [e0, e1, e2, e5, fmtW_len]
  exact ⟨h, rfl, rfl, rfl⟩
theorem fmt_yes {ws : List Nat} {n : Nat} (h : fitsP n (8 * ws.length)) : fmt ws n = fmtW ws.length n ∧ fmtE ws n = 0 := ⟨if_pos h, if_pos h⟩
theorem fmt_len (ws : List Nat) (n : Nat) : (fmt ws n).length = ws.length := by unfold fmt; split; exact fmtW_len _ _; rfl
end Go.Proofs.YtmcnpenihoaajaaGreat
namespace Go.Proofs.YtmcnpenihoaajaaGreat
open Go.RowKit
theorem new48 (w : World) : Calls Tryz.prog 6 #[.int .u64 4800] w fun e w' => e = .returned (.pointer (some ⟨w.heap.size + 1, 0, none⟩)) ∧ w.grownBy w' none ∧ IsSeg w' (w.heap.size + 1) w.heap.size (List.replicate 600 0) := new_yes 600 (by decide) (by decide) w
theorem len48 (n : Nat) : (fmt (List.replicate 600 0) n).length = 600 := by rw [fmt_len, List.length_replicate]
theorem format48 {w : World} {B D n : Nat} (hs : IsSeg w B D (List.replicate 600 0)) (h : fitsP n 4800) : Calls Tryz.prog 7 #[.pointer (some ⟨B, 0, none⟩), .int .u64 n] w fun e w' => e = .returned (.int .i64 0) ∧ w.grownBy w' (some D) ∧ IsSeg w' B D (fmtW 600 n) := by
  have hf : fitsP n (8 * (List.replicate 600 0).length) := by rw [List.length_replicate]; exact h
  refine (format_any hs n (by have := h.2.2; omega)).mono ?_
  rintro e w' ⟨rfl, hg, hs'⟩
  rw [(fmt_yes hf).1, List.length_replicate] at hs'
  rw [(fmt_yes hf).2]
  exact ⟨rfl, hg, hs'⟩
section
variable {n : Nat}
end
theorem Txs.first {w0 w1 w2 w3 : World} {ws ws' : List Nat} (hg1 : w0.grownBy w1 none) (hg2 : w1.grownBy w2 none) (hs : IsSeg w2 (w1.heap.size + 1) w1.heap.size ws) {w2' : World} (hg2' : w2.grownBy w2' (some w1.heap.size)) (hg3 : w2'.grownBy w3 none)
    (ht : Thinks w3 (w2'.heap.size + 1) w2'.heap.size none (w1.heap.size + 1) w1.heap.size ws' []) : Txs w0 w3 (w2'.heap.size + 1) w2'.heap.size none (w1.heap.size + 1) w1.heap.size ws' [] := by
  have h1 := hg1.size
  have h2 := hg2.size
  have h3 := hg2'.size
  refine ⟨ht, grown_trans hg1 (grown_trans (grown_new (grown_trans (grown_any hg2 _) hg2') (Nat.le_refl _)) hg3), by omega, by omega, (fun g hg => by cases hg), by omega, by omega⟩
section
variable {w0 wm w w' : World} {T M : Nat} {R : Option Nat} {B D : Nat} {ws : List Nat} {l : List (Nat × Nat)} {T' M' : Nat} {R' : Option Nat} {l' l2 : List (Nat × Nat)}
end
end Go.Proofs.YtmcnpenihoaajaaGreat
