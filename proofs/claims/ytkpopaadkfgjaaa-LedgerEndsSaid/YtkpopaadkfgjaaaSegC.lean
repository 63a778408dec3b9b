/-
  Package seg: the contract of Load: the word at an offset, or ErrArg; nothing that was there has turned.
  Conditions: the segment is nobody's, or stands in memory; the offset is a number of 64 bits.
-/
import Derived.Test.YtkpopaadkfgjaaaSegB
import Derived.LoopTactic
import Derived.Deep.LoopGhost
namespace Go.Proofs.Ytkpopaadkfgjaaa
open Go.RowKit
set_option linter.unusedVariables false
set_option linter.unusedSimpArgs false

/-- Behind k bytes: the variable holds them, all else is as it was. -/
structure LoadRel (w : World) (V x k : Nat) (wr : World) : Prop where
  grown : w.grownBy wr (some V)
  cell : wr.heap[V]? = some (.cells #[.int .u64 (low x k : Nat)] 30 (0, 0))
theorem LoadRel.next {w wr : World} {V x k : Nat} (R : LoadRel w V x k wr) :
    LoadRel w V x (k + 1) (wr.setCell ⟨V, 0, none⟩ (.int .u64 (low x (k + 1) : Nat))).drew where
  grown := grown_drew (grown_trans R.grown (grown_set _ _ _ _))
  cell := one_setCell R.cell

theorem eight_less (off : Nat) : off + 8 - off = 8 := by omega
set_option maxHeartbeats 400000 in
theorem each_load {w : World} {B D V : Nat} {ws : List Nat} (h : IsSeg w B D ws) (off x : Nat) (ho : stands ws off) (hx : ws.getD (off / 8) 0 = x) (hVB : V ≠ B) (hVD : V ≠ D)
    (hV : w.heap[V]? = some (.cells #[.int .u64 0] 30 (0, 0))) :
    Calls Try.prog 63 #[.pointer (some ⟨B, 0, none⟩), .int .u64 off, .func (.func 79) #[] #[.pointer (some ⟨V, 0, none⟩)]] w
      fun e w' => e = .returned (.tuple #[]) ∧ LoadRel w V x 8 w' := by
  have h1 := h.hd
  have h2 := h.most
  have h4 : off % 8 = 0 := ho.1
  have h6 : off + 8 ≤ 8 * ws.length := by have := ho.2; omega
  have H4 := Lib.hid h4
  have H7 := Lib.hid hx
  clear h4 hx
  have R0 : LoadRel w V x 0 w := ⟨grown_refl _ _, by rw [hV, low_zero]; rfl⟩
  go_enter Try.func63, Try.ntmps63
  go_wp2
  simp only [eight_less]
  go_loopw [7, 18] (fun _ i wr => ∃ k : Nat, k ≤ 8 ∧ i = .int .i64 k ∧ LoadRel w V x k wr) (fun _ i _ => 8 - (intOf i).toNat)
  case atStart => exact ⟨0, Nat.zero_le _, rfl, R0⟩
  case round =>
    obtain ⟨k, hk, rfl, R⟩ := hrel
    clear R0 h1
    by_cases hlt : k < 8
    · have hseg : IsSeg wr B D ws := h.kept R.grown (by simpa using hVB) (by simpa using hVD)
      have hb := hseg.at_ (off + k) (by omega)
      have e1 : byteN ws (off + k) = wb x k := by
        have := H4.out
        unfold byteN
        rw [show (off + k) / 8 = off / 8 by omega, show (off + k) % 8 = k by omega, H7.out]
      rw [e1] at hb
      clear e1
      go_wp2_with (go_at_call 79; refine (load1_at x k hlt V D (off + k) _ (cell_of_one R.cell) (free_of_one R.cell) hb).mono ?_; rintro e w' ⟨rfl, rfl⟩)
      go_roundw
      case rel => exact ⟨k + 1, by omega, by go_num, R.next⟩
      case measure => simp [intOf]; omega
    · obtain rfl : k = 8 := by omega
      go_wp2
      go_end0
      exact ⟨rfl, R⟩

/-- The word at an offset, and its error's number. -/
def getW (ws : List Nat) (off : Nat) : Nat := if stands ws off then ws.getD (off / 8) 0 else 0
def errW (ws : List Nat) (off : Nat) : Nat := if stands ws off then 0 else 1
theorem getW_lt {ws : List Nat} (h : ∀ x ∈ ws, x < 18446744073709551616) (off : Nat) : getW ws off < 18446744073709551616 := by
  unfold getW
  split
  · exact getD_lt h _
  · omega
theorem SegAt.isSeg {w : World} {v : Value} {ws : List Nat} (h : SegAt w v ws) {off : Nat} (ho : stands ws off) : ∃ B D, v = .pointer (some ⟨B, 0, none⟩) ∧ IsSeg w B D ws := by
  rcases h with ⟨rfl, rfl⟩ | h
  · exact absurd ho.2 (by simp)
  · exact h
theorem load_no {w : World} {v : Value} {ws : List Nat} (h : SegAt w v ws) (off : Nat) (hlt : off < 18446744073709551616) (ho : ¬ stands ws off) :
    Calls Try.prog 61 #[v, .int .u64 off] w fun e w' => e = .returned (.tuple #[.int .u64 0, .int .i64 1]) ∧ w.grownBy w' none := by
  have hd := decide_eq_false ho
  have hc := has_any h off hlt
  rw [hd] at hc
  go_enter Try.func61, Try.ntmps61
  go_wp2_with (go_at_call 62; refine hc.mono ?_; rintro e w' ⟨rfl, rfl⟩)
  go_ret2
  exact ⟨rfl, grown_refl _ _⟩
theorem load_yes {w : World} {v : Value} {ws : List Nat} (h : SegAt w v ws) (off x : Nat) (hlt : off < 18446744073709551616) (ho : stands ws off) (hx : ws.getD (off / 8) 0 = x) :
    Calls Try.prog 61 #[v, .int .u64 off] w fun e w' => e = .returned (.tuple #[.int .u64 x, .int .i64 0]) ∧ w.grownBy w' none := by
  have hd := decide_eq_true ho
  have hc := has_any h off hlt
  rw [hd] at hc
  obtain ⟨B, D, rfl, hs⟩ := h.isSeg ho
  have hs1 : IsSeg (w.alloc (.cells #[.int .u64 0] 30)) B D ws := hs.later (World.grownBy_alloc _ _ _)
  have hx64 : low x 8 = x := low_all x (by rw [← hx]; exact getD_lt hs.words _)
  have H := Lib.hid hx
  have HL := Lib.hid hx64
  clear hx hx64
  go_enter Try.func61, Try.ntmps61
  go_wp2_with (first | (go_at_call 62; refine hc.mono ?_; rintro e w' ⟨rfl, rfl⟩) | (go_at_call 63; refine (each_load hs1 off x ho H.out (Nat.ne_of_gt hs.ltB) (Nat.ne_of_gt hs.ltD) (heap_alloc_new' _ _)).mono ?_; rintro e w1 ⟨rfl, R⟩; have hcell := cell_of_one R.cell))
  go_ret2
  exact ⟨by rw [HL.out]; rfl, grown_new (grown_trans (World.grownBy_alloc _ _ _) R.grown) (Nat.le_refl _)⟩
theorem load_any {w : World} {v : Value} {ws : List Nat} (h : SegAt w v ws) (off : Nat) (hlt : off < 18446744073709551616) :
    Calls Try.prog 61 #[v, .int .u64 off] w fun e w' => e = .returned (.tuple #[.int .u64 (getW ws off : Nat), .int .i64 (errW ws off : Nat)]) ∧ w.grownBy w' none := by
  by_cases ho : stands ws off
  · have := load_yes h off _ hlt ho rfl
    unfold getW errW
    rw [if_pos ho, if_pos ho]
    exact this
  · have := load_no h off hlt ho
    unfold getW errW
    rw [if_neg ho, if_neg ho]
    exact this
end Go.Proofs.Ytkpopaadkfgjaaa
