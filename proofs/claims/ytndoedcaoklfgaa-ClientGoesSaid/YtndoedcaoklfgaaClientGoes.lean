/-
  Who came goes, if nothing is left; who goes is nobody, and may come again. The statement ClientGoes, for every client's number, and every number; no condition.
-/
import Derived.Test.YtndoedcaoklfgaaCliG
namespace Go.Proofs.Ytndoedcaoklfgaa.clientGoes
open Go.ChangeShapes Go.WideShapes Go.ChangeAt Go.RowKit
set_option linter.unusedVariables false
set_option linter.unusedSimpArgs false

set_option maxRecDepth 100000 in
set_option maxHeartbeats 8000000 in
theorem core (c : Int) (off : Nat) (ho : off < 18446744073709551616) (w : World) :
    Calls Try.prog 6 #[.int .i64 c, .int .u64 off] w fun e w' => e = .returned (.bool true) ∧ w.grownBy w' none := by
  have hfo : ∀ w, Calls Try.prog 10 #[.int .u64 4480, .slice none 0 0] w _ := fun w => formed8_nil 4480 (by decide) w
  have hfit : fitsP 4480 4800 := by unfold fitsP; omega
  by_cases hc : thereP c
  · have hc0 : ¬ c < 0 := by have := hc.1; omega
    have hc8 : ¬ 8 ≤ c := by have := hc.2; omega
    have hs0 : slotP c 0 := (slot_state c).2 hc
    have hs8 : slotP c 8 := (slot_head c).2 hc
    have g0 := get_none hfit c (q := 0) (by decide) (by decide)
    obtain ⟨a1, a2⟩ := att_new hc g0
    by_cases hoff : off = 0
    · subst hoff
      have hA2 : ∀ (w : World) (T M : Nat) (R : Option Nat) (B D : Nat) (h : Thinks w T M R B D (fmt48 4480) []), Calls Try.prog 24 #[.pointer (some ⟨T, 0, none⟩), .int .i64 c] w _ := fun w T M R B D h => cattach_any h c
      have hP3 : ∀ (w : World) (T M : Nat) (R : Option Nat) (B D : Nat) (h : Thinks w T M R B D (fmt48 4480) (cSet (fmt48 4480) [] c 0 1)), Calls Try.prog 25 #[.pointer (some ⟨T, 0, none⟩), .int .i64 c, .int .u64 0] w _ := fun w T M R B D h => cpoint_any h c 0 (by decide)
      have hD4 : ∀ (w : World) (T M : Nat) (R : Option Nat) (B D : Nat) (h : Thinks w T M R B D (fmt48 4480) (cSet (fmt48 4480) (cSet (fmt48 4480) [] c 0 1) c 8 0)), Calls Try.prog 26 #[.pointer (some ⟨T, 0, none⟩), .int .i64 c] w _ := fun w T M R B D h => cdetach_any h c
      have hP5 : ∀ (w : World) (T M : Nat) (R : Option Nat) (B D : Nat) (h : Thinks w T M R B D (fmt48 4480) (cSet (fmt48 4480) (cSet (fmt48 4480) (cSet (fmt48 4480) [] c 0 1) c 8 0) c 0 0)), Calls Try.prog 25 #[.pointer (some ⟨T, 0, none⟩), .int .i64 c, .int .u64 0] w _ := fun w T M R B D h => cpoint_any h c 0 (by decide)
      have hD6 : ∀ (w : World) (T M : Nat) (R : Option Nat) (B D : Nat) (h : Thinks w T M R B D (fmt48 4480) (cSet (fmt48 4480) (cSet (fmt48 4480) (cSet (fmt48 4480) (cSet (fmt48 4480) [] c 0 1) c 8 0) c 0 0) c 8 0)), Calls Try.prog 26 #[.pointer (some ⟨T, 0, none⟩), .int .i64 c] w _ := fun w T M R B D h => cdetach_any h c
      have hA7 : ∀ (w : World) (T M : Nat) (R : Option Nat) (B D : Nat) (h : Thinks w T M R B D (fmt48 4480) (cSet (fmt48 4480) (cSet (fmt48 4480) (cSet (fmt48 4480) (cSet (fmt48 4480) [] c 0 1) c 8 0) c 0 0) c 8 0)), Calls Try.prog 24 #[.pointer (some ⟨T, 0, none⟩), .int .i64 c] w _ := fun w T M R B D h => cattach_any h c
      obtain ⟨d1, d2⟩ := det_goes (ws := fmt48 4480) (l := (cSet (fmt48 4480) (cSet (fmt48 4480) [] c 0 1) c 8 0)) hc (by simp [get_set hs0, get_set hs8, g0]) (by simp [get_set hs0, get_set hs8, g0])
      obtain ⟨d3, d4⟩ := det_no (ws := fmt48 4480) (l := (cSet (fmt48 4480) (cSet (fmt48 4480) (cSet (fmt48 4480) (cSet (fmt48 4480) [] c 0 1) c 8 0) c 0 0) c 8 0)) hc (by simp [get_set hs0, get_set hs8, g0])
      obtain ⟨a3, a4⟩ := att_new (ws := fmt48 4480) (l := (cSet (fmt48 4480) (cSet (fmt48 4480) (cSet (fmt48 4480) (cSet (fmt48 4480) [] c 0 1) c 8 0) c 0 0) c 8 0)) hc (by simp [get_set hs0, get_set hs8, g0])
      have s8 : cGet (fmt48 4480) (cSet (fmt48 4480) (cSet (fmt48 4480) (cSet (fmt48 4480) (cSet (fmt48 4480) (cSet (fmt48 4480) [] c 0 1) c 8 0) c 0 0) c 8 0) c 0 1) c 0 = 1 := by simp [get_set hs0, get_set hs8, g0]
      have hS8 : ∀ (w : World) (T M : Nat) (R : Option Nat) (B D : Nat) (h : Thinks w T M R B D (fmt48 4480) (cSet (fmt48 4480) (cSet (fmt48 4480) (cSet (fmt48 4480) (cSet (fmt48 4480) (cSet (fmt48 4480) [] c 0 1) c 8 0) c 0 0) c 8 0) c 0 1)), Calls Try.prog 14 #[.pointer (some ⟨T, 0, none⟩), .int .i64 c] w _ := fun w T M R B D h => cstate_any h c
      rw [a1, a2] at hA2
      rw [d1, d2] at hD4
      rw [d3, d4] at hD6
      rw [a3, a4] at hA7
      rw [s8] at hS8
      clear a1 a2 a3 a4 d1 d2 d3 d4 s8 g0 hs0 hs8 hfit hc
      go_enter Try.func6, Try.ntmps6
      go_wp2_with (first | (go_at_call 9; ((with_reducible refine (awake8 _).mono ?_); rintro e w1 ⟨rfl, hg1⟩)) | (go_at_call 10; ((with_reducible refine (hfo _).mono ?_); rintro e w2 ⟨B, D, T, M, R, wv, pv, rfl, X1, hrt, _⟩; obtain ⟨wa, wn, wc, hwv⟩ := wv_form hrt.words; subst hwv; obtain ⟨pa, pn, pc, hpv⟩ := pv_form hrt.puts; subst hpv; have X2 := X1.later (World.grownBy_alloc w2 (.cells #[.slice wa wn wc, .slice pa pn pc] 29) none))) | (go_at_call 24; ((with_reducible refine (hA2 _ _ _ _ _ _ X2.tx).mono ?_); rintro e w3 ⟨rfl, ht3⟩; obtain ⟨R3, X3, _⟩ := X2.step ht3)) | (go_at_call 25; ((with_reducible refine (hP3 _ _ _ _ _ _ X3.tx).mono ?_); rintro e w4 ⟨rfl, ht4⟩; obtain ⟨R4, X4, _⟩ := X3.step ht4)) | (go_at_call 26; ((with_reducible refine (hD4 _ _ _ _ _ _ X4.tx).mono ?_); rintro e w5 ⟨rfl, ht5⟩; obtain ⟨R5, X5, _⟩ := X4.step ht5)) | (go_at_call 25; ((with_reducible refine (hP5 _ _ _ _ _ _ X5.tx).mono ?_); rintro e w6 ⟨rfl, ht6⟩; obtain ⟨R6, X6, _⟩ := X5.step ht6)) | (go_at_call 26; ((with_reducible refine (hD6 _ _ _ _ _ _ X6.tx).mono ?_); rintro e w7 ⟨rfl, ht7⟩; obtain ⟨R7, X7, _⟩ := X6.step ht7)) | (go_at_call 24; ((with_reducible refine (hA7 _ _ _ _ _ _ X7.tx).mono ?_); rintro e w8 ⟨rfl, ht8⟩; obtain ⟨R8, X8, _⟩ := X7.step ht8)) | (go_at_call 14; ((with_reducible refine (hS8 _ _ _ _ _ _ X8.tx).mono ?_); rintro e w9 ⟨rfl, hg9⟩; have X9 := X8.later hg9)))
      go_ret
      exact ⟨ret_bool' (by simp), grown_trans hg1 X9.since⟩
    · have hof : ¬ (off : Int) = 0 := by omega
      have hA2 : ∀ (w : World) (T M : Nat) (R : Option Nat) (B D : Nat) (h : Thinks w T M R B D (fmt48 4480) []), Calls Try.prog 24 #[.pointer (some ⟨T, 0, none⟩), .int .i64 c] w _ := fun w T M R B D h => cattach_any h c
      have hP3 : ∀ (w : World) (T M : Nat) (R : Option Nat) (B D : Nat) (h : Thinks w T M R B D (fmt48 4480) (cSet (fmt48 4480) [] c 0 1)), Calls Try.prog 25 #[.pointer (some ⟨T, 0, none⟩), .int .i64 c, .int .u64 off] w _ := fun w T M R B D h => cpoint_any h c off ho
      have hD4 : ∀ (w : World) (T M : Nat) (R : Option Nat) (B D : Nat) (h : Thinks w T M R B D (fmt48 4480) (cSet (fmt48 4480) (cSet (fmt48 4480) [] c 0 1) c 8 off)), Calls Try.prog 26 #[.pointer (some ⟨T, 0, none⟩), .int .i64 c] w _ := fun w T M R B D h => cdetach_any h c
      have hP5 : ∀ (w : World) (T M : Nat) (R : Option Nat) (B D : Nat) (h : Thinks w T M R B D (fmt48 4480) (cSet (fmt48 4480) (cSet (fmt48 4480) [] c 0 1) c 8 off)), Calls Try.prog 25 #[.pointer (some ⟨T, 0, none⟩), .int .i64 c, .int .u64 0] w _ := fun w T M R B D h => cpoint_any h c 0 (by decide)
      have hD6 : ∀ (w : World) (T M : Nat) (R : Option Nat) (B D : Nat) (h : Thinks w T M R B D (fmt48 4480) (cSet (fmt48 4480) (cSet (fmt48 4480) (cSet (fmt48 4480) [] c 0 1) c 8 off) c 8 0)), Calls Try.prog 26 #[.pointer (some ⟨T, 0, none⟩), .int .i64 c] w _ := fun w T M R B D h => cdetach_any h c
      have hA7 : ∀ (w : World) (T M : Nat) (R : Option Nat) (B D : Nat) (h : Thinks w T M R B D (fmt48 4480) (cSet (fmt48 4480) (cSet (fmt48 4480) (cSet (fmt48 4480) (cSet (fmt48 4480) [] c 0 1) c 8 off) c 8 0) c 0 0)), Calls Try.prog 24 #[.pointer (some ⟨T, 0, none⟩), .int .i64 c] w _ := fun w T M R B D h => cattach_any h c
      obtain ⟨d1, d2⟩ := det_busy (ws := fmt48 4480) (l := (cSet (fmt48 4480) (cSet (fmt48 4480) [] c 0 1) c 8 off)) hc (by simp [get_set hs0, get_set hs8, g0]) (by simpa [get_set hs0, get_set hs8, g0] using hoff)
      obtain ⟨d3, d4⟩ := det_goes (ws := fmt48 4480) (l := (cSet (fmt48 4480) (cSet (fmt48 4480) (cSet (fmt48 4480) [] c 0 1) c 8 off) c 8 0)) hc (by simp [get_set hs0, get_set hs8, g0]) (by simp [get_set hs0, get_set hs8, g0])
      obtain ⟨a3, a4⟩ := att_new (ws := fmt48 4480) (l := (cSet (fmt48 4480) (cSet (fmt48 4480) (cSet (fmt48 4480) (cSet (fmt48 4480) [] c 0 1) c 8 off) c 8 0) c 0 0)) hc (by simp [get_set hs0, get_set hs8, g0])
      have s8 : cGet (fmt48 4480) (cSet (fmt48 4480) (cSet (fmt48 4480) (cSet (fmt48 4480) (cSet (fmt48 4480) (cSet (fmt48 4480) [] c 0 1) c 8 off) c 8 0) c 0 0) c 0 1) c 0 = 1 := by simp [get_set hs0, get_set hs8, g0]
      have hS8 : ∀ (w : World) (T M : Nat) (R : Option Nat) (B D : Nat) (h : Thinks w T M R B D (fmt48 4480) (cSet (fmt48 4480) (cSet (fmt48 4480) (cSet (fmt48 4480) (cSet (fmt48 4480) (cSet (fmt48 4480) [] c 0 1) c 8 off) c 8 0) c 0 0) c 0 1)), Calls Try.prog 14 #[.pointer (some ⟨T, 0, none⟩), .int .i64 c] w _ := fun w T M R B D h => cstate_any h c
      rw [a1, a2] at hA2
      rw [d1, d2] at hD4
      rw [d3, d4] at hD6
      rw [a3, a4] at hA7
      rw [s8] at hS8
      clear a1 a2 a3 a4 d1 d2 d3 d4 s8 g0 hs0 hs8 hfit hc
      go_enter Try.func6, Try.ntmps6
      go_wp2_with (first | (go_at_call 9; ((with_reducible refine (awake8 _).mono ?_); rintro e w1 ⟨rfl, hg1⟩)) | (go_at_call 10; ((with_reducible refine (hfo _).mono ?_); rintro e w2 ⟨B, D, T, M, R, wv, pv, rfl, X1, hrt, _⟩; obtain ⟨wa, wn, wc, hwv⟩ := wv_form hrt.words; subst hwv; obtain ⟨pa, pn, pc, hpv⟩ := pv_form hrt.puts; subst hpv; have X2 := X1.later (World.grownBy_alloc w2 (.cells #[.slice wa wn wc, .slice pa pn pc] 29) none))) | (go_at_call 24; ((with_reducible refine (hA2 _ _ _ _ _ _ X2.tx).mono ?_); rintro e w3 ⟨rfl, ht3⟩; obtain ⟨R3, X3, _⟩ := X2.step ht3)) | (go_at_call 25; ((with_reducible refine (hP3 _ _ _ _ _ _ X3.tx).mono ?_); rintro e w4 ⟨rfl, ht4⟩; obtain ⟨R4, X4, _⟩ := X3.step ht4)) | (go_at_call 26; ((with_reducible refine (hD4 _ _ _ _ _ _ X4.tx).mono ?_); rintro e w5 ⟨rfl, ht5⟩; obtain ⟨R5, X5, _⟩ := X4.step ht5)) | (go_at_call 25; ((with_reducible refine (hP5 _ _ _ _ _ _ X5.tx).mono ?_); rintro e w6 ⟨rfl, ht6⟩; obtain ⟨R6, X6, _⟩ := X5.step ht6)) | (go_at_call 26; ((with_reducible refine (hD6 _ _ _ _ _ _ X6.tx).mono ?_); rintro e w7 ⟨rfl, ht7⟩; obtain ⟨R7, X7, _⟩ := X6.step ht7)) | (go_at_call 24; ((with_reducible refine (hA7 _ _ _ _ _ _ X7.tx).mono ?_); rintro e w8 ⟨rfl, ht8⟩; obtain ⟨R8, X8, _⟩ := X7.step ht8)) | (go_at_call 14; ((with_reducible refine (hS8 _ _ _ _ _ _ X8.tx).mono ?_); rintro e w9 ⟨rfl, hg9⟩; have X9 := X8.later hg9)))
      go_ret
      exact ⟨ret_bool' (by simp [hoff]), grown_trans hg1 X9.since⟩
  · have hn0 : ¬ slotP c 0 := fun h => hc h.1
    have hn8 : ¬ slotP c 8 := fun h => hc h.1
    have hA2 : ∀ (w : World) (T M : Nat) (R : Option Nat) (B D : Nat) (h : Thinks w T M R B D (fmt48 4480) []), Calls Try.prog 24 #[.pointer (some ⟨T, 0, none⟩), .int .i64 c] w _ := fun w T M R B D h => cattach_any h c
    have hP3 : ∀ (w : World) (T M : Nat) (R : Option Nat) (B D : Nat) (h : Thinks w T M R B D (fmt48 4480) []), Calls Try.prog 25 #[.pointer (some ⟨T, 0, none⟩), .int .i64 c, .int .u64 off] w _ := fun w T M R B D h => cpoint_any h c off ho
    have hD4 : ∀ (w : World) (T M : Nat) (R : Option Nat) (B D : Nat) (h : Thinks w T M R B D (fmt48 4480) []), Calls Try.prog 26 #[.pointer (some ⟨T, 0, none⟩), .int .i64 c] w _ := fun w T M R B D h => cdetach_any h c
    have hP5 : ∀ (w : World) (T M : Nat) (R : Option Nat) (B D : Nat) (h : Thinks w T M R B D (fmt48 4480) []), Calls Try.prog 25 #[.pointer (some ⟨T, 0, none⟩), .int .i64 c, .int .u64 0] w _ := fun w T M R B D h => cpoint_any h c 0 (by decide)
    have hD6 : ∀ (w : World) (T M : Nat) (R : Option Nat) (B D : Nat) (h : Thinks w T M R B D (fmt48 4480) []), Calls Try.prog 26 #[.pointer (some ⟨T, 0, none⟩), .int .i64 c] w _ := fun w T M R B D h => cdetach_any h c
    have hA7 : ∀ (w : World) (T M : Nat) (R : Option Nat) (B D : Nat) (h : Thinks w T M R B D (fmt48 4480) []), Calls Try.prog 24 #[.pointer (some ⟨T, 0, none⟩), .int .i64 c] w _ := fun w T M R B D h => cattach_any h c
    have hU8 : ∀ (w : World) (T M : Nat) (R : Option Nat) (B D : Nat) (h : Thinks w T M R B D (fmt48 4480) []), Calls Try.prog 18 #[.pointer (some ⟨T, 0, none⟩)] w fun e w' => ∃ a k, e = .returned (.slice a 0 k) ∧ w.grownBy w' none := fun w T M R B D h => (txputs_any h).mono fun e w' ⟨v, h1, h2, h3⟩ => by
      obtain ⟨a, k, g, hv, _⟩ := h2.addr
      exact ⟨a, k, by rw [h1, hv]; rfl, h3⟩
    obtain ⟨a1, a2⟩ := att_not (ws := fmt48 4480) (l := []) hc
    obtain ⟨d1, d2⟩ := det_not (ws := fmt48 4480) (l := []) hc
    rw [a1, a2] at hA2 hA7
    rw [d1, d2] at hD4 hD6
    rw [set_not hn8] at hP3 hP5
    clear a1 a2 d1 d2 hn0 hn8 hfit
    by_cases h0 : c < 0
    · skip
      go_enter Try.func6, Try.ntmps6
      go_wp2_with (first | (go_at_call 9; ((with_reducible refine (awake8 _).mono ?_); rintro e w1 ⟨rfl, hg1⟩)) | (go_at_call 10; ((with_reducible refine (hfo _).mono ?_); rintro e w2 ⟨B, D, T, M, R, wv, pv, rfl, X1, hrt, _⟩; obtain ⟨wa, wn, wc, hwv⟩ := wv_form hrt.words; subst hwv; obtain ⟨pa, pn, pc, hpv⟩ := pv_form hrt.puts; subst hpv; have X2 := X1.later (World.grownBy_alloc w2 (.cells #[.slice wa wn wc, .slice pa pn pc] 29) none))) | (go_at_call 24; ((with_reducible refine (hA2 _ _ _ _ _ _ X2.tx).mono ?_); rintro e w3 ⟨rfl, ht3⟩; obtain ⟨R3, X3, _⟩ := X2.step ht3)) | (go_at_call 25; ((with_reducible refine (hP3 _ _ _ _ _ _ X3.tx).mono ?_); rintro e w4 ⟨rfl, ht4⟩; obtain ⟨R4, X4, _⟩ := X3.step ht4)) | (go_at_call 26; ((with_reducible refine (hD4 _ _ _ _ _ _ X4.tx).mono ?_); rintro e w5 ⟨rfl, ht5⟩; obtain ⟨R5, X5, _⟩ := X4.step ht5)) | (go_at_call 25; ((with_reducible refine (hP5 _ _ _ _ _ _ X5.tx).mono ?_); rintro e w6 ⟨rfl, ht6⟩; obtain ⟨R6, X6, _⟩ := X5.step ht6)) | (go_at_call 26; ((with_reducible refine (hD6 _ _ _ _ _ _ X6.tx).mono ?_); rintro e w7 ⟨rfl, ht7⟩; obtain ⟨R7, X7, _⟩ := X6.step ht7)) | (go_at_call 24; ((with_reducible refine (hA7 _ _ _ _ _ _ X7.tx).mono ?_); rintro e w8 ⟨rfl, ht8⟩; obtain ⟨R8, X8, _⟩ := X7.step ht8)) | (go_at_call 18; ((with_reducible refine (hU8 _ _ _ _ _ _ X8.tx).mono ?_); rintro e w9 ⟨a9, k9, rfl, hg9⟩; have X9 := X8.later hg9)))
      go_ret
      exact ⟨ret_bool' (by simp), grown_trans hg1 X9.since⟩
    · have h8 : 8 ≤ c := by unfold thereP at hc; omega
      go_enter Try.func6, Try.ntmps6
      go_wp2_with (first | (go_at_call 9; ((with_reducible refine (awake8 _).mono ?_); rintro e w1 ⟨rfl, hg1⟩)) | (go_at_call 10; ((with_reducible refine (hfo _).mono ?_); rintro e w2 ⟨B, D, T, M, R, wv, pv, rfl, X1, hrt, _⟩; obtain ⟨wa, wn, wc, hwv⟩ := wv_form hrt.words; subst hwv; obtain ⟨pa, pn, pc, hpv⟩ := pv_form hrt.puts; subst hpv; have X2 := X1.later (World.grownBy_alloc w2 (.cells #[.slice wa wn wc, .slice pa pn pc] 29) none))) | (go_at_call 24; ((with_reducible refine (hA2 _ _ _ _ _ _ X2.tx).mono ?_); rintro e w3 ⟨rfl, ht3⟩; obtain ⟨R3, X3, _⟩ := X2.step ht3)) | (go_at_call 25; ((with_reducible refine (hP3 _ _ _ _ _ _ X3.tx).mono ?_); rintro e w4 ⟨rfl, ht4⟩; obtain ⟨R4, X4, _⟩ := X3.step ht4)) | (go_at_call 26; ((with_reducible refine (hD4 _ _ _ _ _ _ X4.tx).mono ?_); rintro e w5 ⟨rfl, ht5⟩; obtain ⟨R5, X5, _⟩ := X4.step ht5)) | (go_at_call 25; ((with_reducible refine (hP5 _ _ _ _ _ _ X5.tx).mono ?_); rintro e w6 ⟨rfl, ht6⟩; obtain ⟨R6, X6, _⟩ := X5.step ht6)) | (go_at_call 26; ((with_reducible refine (hD6 _ _ _ _ _ _ X6.tx).mono ?_); rintro e w7 ⟨rfl, ht7⟩; obtain ⟨R7, X7, _⟩ := X6.step ht7)) | (go_at_call 24; ((with_reducible refine (hA7 _ _ _ _ _ _ X7.tx).mono ?_); rintro e w8 ⟨rfl, ht8⟩; obtain ⟨R8, X8, _⟩ := X7.step ht8)) | (go_at_call 18; ((with_reducible refine (hU8 _ _ _ _ _ _ X8.tx).mono ?_); rintro e w9 ⟨a9, k9, rfl, hg9⟩; have X9 := X8.later hg9)))
      go_ret
      exact ⟨ret_bool' (by simp), grown_trans hg1 X9.since⟩
theorem walk (a : Int) (_ : (Lit.int .i64 a).wf = true) (b : Int) (wb : (Lit.int .u64 b).wf = true) (w : World) :
    Calls Try.prog 6 #[.int .i64 a, .int .u64 b] w fun e w' => e = .returned (.bool true) ∧ Below w.heap.size w w' := by
  have b0 := bounds_u64 wb
  obtain ⟨n, rfl⟩ := Int.eq_ofNat_of_zero_le b0.1
  exact (core a n (by omega) w).mono fun e w' ⟨h1, h2⟩ => ⟨h1, grown_below h2⟩

theorem laidOut : laidOutB Try.prog = true := by kernel_rfl
/-! ### The row's step: the guide's frame -/
theorem own : ownKnob Try.prog.godebug = none := by kernel_rfl
set_option maxRecDepth 100000 in
theorem lifted (os : Os) (started : os.Started) (H : Type) (enc : TypeId × Value → H) :
    ReturnsInHanded {} Try.checked os 6 .any (Rows.clientGoesSpec.pre6 enc Try.prog Try.f6 Rows.clientGoesRow.domain false) (Rows.clientGoesSpec.post enc Try.prog Try.f6 false true false false) := by
  refine returnsInHanded_of_change (C := Try.checked) own started (by kernel_rfl) Try.func6
    (ChangeSpec.witness6 (enc := enc) (C := Try.checked) false ⟨#[], #[.int .i64 0, .int .u64 0], []⟩ 8 (by kernel_rfl) (by kernel_rfl) (by kernel_rfl) (by kernel_rfl)) ?_
  intro W base args ds gs before hval0 hW hcnd _
  have hval : ∀ (j : Nat) t v, Try.f6.params[j]? = some t → args[j]? = some v → Value.okWide Try.prog W .any base t v := hval0
  have hW' := hW
  obtain ⟨p, q, hA0, hV, rfl, hfz, hnd⟩ := hW
  have hA : DataW.TrodAll enc Try.prog W 0 (fun _ => true) true Try.f6.params.toList args.toList ds p := hA0
  rw [Try.params6] at hA hval
  obtain ⟨v0, vs0, d0, ds0, p0, q0, hargs, rfl, rfl, h0, r0⟩ := trodAll_cons hA
  obtain ⟨v1, vs1, d1, ds1, p1, q1, rfl, rfl, rfl, h1, r1⟩ := trodAll_cons r0
  obtain ⟨rfl, rfl, rfl⟩ := trodAll_nil r1
  obtain rfl : args = #[v0, v1] := by cases args; simp_all
  obtain ⟨rfl, rfl⟩ := trodVars_none hV
  obtain ⟨a0, rfl, rfl, rfl, w0⟩ := open_int Try.underlying3 (hval 0 3 v0 rfl rfl) h0
  obtain ⟨a1, rfl, rfl, rfl, w1⟩ := open_int Try.underlying24 (hval 1 24 v1 rfl rfl) h1
  clear hA0 hval0
  refine (walk a0 w0 a1 w1 W).mono fun e W' ⟨he, bel⟩ => ?_
  subst he
  exact ⟨_, rfl, _, _, _, [], _, [], hW', trodAll_mk1 (shut_bool Try.underlying4 _), (trodAll_cons_mk (shut_int Try.underlying3 w0) (trodAll_cons_mk (shut_int Try.underlying24 w1) trodAll_mk0)), rfl, bel.frame _, fun h => by cases h⟩

theorem over : Rows.clientGoesRow.holds Try.pinned (OpenSpec.ofChange Rows.clientGoesSpec) :=
  OpenClaim.holds_of_wide 6 Try.f6 rfl rfl rfl rfl rfl rfl rfl ⟨rfl, rfl, rfl, rfl, rfl⟩ rfl rfl rfl rfl rfl (by kernel_rfl) Try.func6 (by kernel_rfl)
    (of_decide_eq_true (by kernel_rfl)) (by unfold Func.isWrapper; first | (rw [if_pos (by decide +kernel)]; kernel_rfl) | (rw [if_neg (by decide +kernel)]; exact ⟨rfl, rfl⟩))
    (fun os started H enc _ => lifted os started H enc)

theorem proved : Rows.ClientGoesSaid :=
  over
#print axioms proved


end Go.Proofs.Ytndoedcaoklfgaa.clientGoes
