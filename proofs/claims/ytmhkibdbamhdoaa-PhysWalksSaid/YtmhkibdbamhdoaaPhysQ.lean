/-
  What all statements of layer 6 ask first (awake) is true.
  No condition.
-/
import Derived.Test.YtmhkibdbamhdoaaPhysI
import Derived.Test.YtmhkibdbamhdoaaPhysJ
import Derived.Test.YtmhkibdbamhdoaaPhysL
namespace Go.Proofs.Ytmhkibdbamhdoaa
open Go.RowKit
set_option linter.unusedVariables false
set_option linter.unusedSimpArgs false

theorem aw6_fits : fitsP 4000 4800 := by unfold fitsP; omega
theorem aw6_see (x : Nat) : txSee (fmt48 4000) [] x = getW (fmtW 600 4000) x := by rw [fmt48_yes aw6_fits, see_nil]
theorem aw6_heap : Heap (fmt48 4000) [] [⟨3776, 224, false, 0, 0⟩] 0 := by
  have f16 : txSee (fmt48 4000) [] 16 = 4000 := by rw [aw6_see]; exact fmt48_16 aw6_fits
  have f37 : txSee (fmt48 4000) [] 3776 = 224 := by rw [aw6_see, getW_fmt (K := 600) aw6_fits]; simp
  have fl : txSee (fmt48 4000) [] 3992 = 224 := by rw [aw6_see, getW_fmt (K := 600) aw6_fits]; simp
  have hc : chkN (fmt48 4000) [] = 0 := by
    rw [fmt48_yes aw6_fits]
    exact if_pos (chk_fmt (K := 600) aw6_fits)
  obtain ⟨f, hf⟩ : ∃ f, txSee (fmt48 4000) [] = f := ⟨_, rfl⟩
  rw [hf] at f16 f37 fl
  have hb : bkP f 3776 := by
    unfold bkP rdP
    rw [f37, f16]
    refine ⟨⟨by decide, by decide, ?_⟩, fun h => absurd h (by decide)⟩
    rw [show 3776 + usz 224 - 8 = 3992 by decide]
    exact fl
  have o1 : offs f 1 = 4000 := by
    show 3776 + usz (f 3776) = 4000
    rw [f37]
    decide
  have hw : Walks f 1 true := by
    refine ⟨fun k hk => ?_, ?_⟩
    · obtain rfl : k = 0 := by omega
      refine ⟨?_, hb⟩
      rw [f16]
      show 3776 < 4000
      decide
    · rw [if_pos rfl, f16, o1]
      exact Nat.le_refl _
  refine ⟨.inr ⟨hc, 1, true, by rw [hf]; exact hw, ?_, rfl⟩, by decide⟩
  rw [hf]
  show [(⟨3776, 224, false, 0, 0⟩ : Blk)] = [bkAt f 3776]
  unfold bkAt bkL
  rw [f37]
  rfl
set_option maxHeartbeats 2000000 in
theorem awake6 (w : World) : Calls Try.prog 9 #[] w fun e w' => e = .returned (.bool true) ∧ w.grownBy w' none := by
  have hfo : ∀ w, Calls Try.prog 17 #[.int .u64 4000, .slice none 0 0] w _ := fun w => formed6_nil 4000 (by decide) w
  have hwk : ∀ (w : World) (T M : Nat) (R : Option Nat) (B D : Nat) (h : Thinks w T M R B D (fmt48 4000) []), Calls Try.prog 11 #[.pointer (some ⟨T, 0, none⟩)] w fun e w' => ∃ v, e = .returned (.tuple #[v, .int .i64 0]) ∧ OwnB w' w.heap.size 42 v [⟨3776, 224, false, 0, 0⟩] ∧ w.grownBy w' none := fun w T M R B D h => pwalk_any h aw6_heap
  have hmg : ∀ (w : World) (la : Option Addr) (c : Nat) (h : BlksAt w la [⟨3776, 224, false, 0, 0⟩]), Calls Try.prog 21 #[.slice la 1 c] w fun e w' => e = .returned (.bool true) ∧ w.grownBy w' none := fun w la c h => merged_any (c := c) h (by decide)
  obtain ⟨ws, ews⟩ : ∃ ws, fmt48 4000 = ws := ⟨_, rfl⟩
  rw [ews] at hfo hwk
  clear ews
  go_enter Try.func9, Try.ntmps9
  go_wp2_with (first | (go_at_call 17; ((with_reducible refine (hfo _).mono ?_); rintro e w1 ⟨B, D, T, M, R, wv, pv, rfl, X1, hrt, _⟩; obtain ⟨wa, wn, wc, hwv⟩ := wv_form hrt.words; subst hwv; obtain ⟨pa, pn, pc, hpv⟩ := pv_form hrt.puts; subst hpv; have X2 := X1.later (World.grownBy_alloc w1 (.cells #[.slice wa wn wc, .slice pa pn pc] 29) none))) | (go_at_call 11; ((with_reducible refine (hwk _ _ _ _ _ _ X2.tx).mono ?_); rintro e w3 ⟨v, rfl, ho3, hg3⟩; obtain ⟨la, c, hv, hat⟩ := ho3.at_; subst hv; have X3 := X2.later hg3; have HAT := Lib.hid hat; obtain ⟨b, off, hla, hb, hcs⟩ := hat.cells (by decide); subst hla; obtain ⟨c0, c1, c2, c3, c4⟩ := hcs 0 (by decide); simp only [Nat.zero_mul, Nat.add_zero] at c0 c1 c2 c3 c4; clear hcs hat)) | (go_at_call 21; ((with_reducible refine (hmg _ _ _ HAT.out).mono ?_); rintro e w4 ⟨rfl, hg4⟩; have X4 := X3.later hg4)))
  go_ret
  exact ⟨rfl, X4.since⟩
end Go.Proofs.Ytmhkibdbamhdoaa
