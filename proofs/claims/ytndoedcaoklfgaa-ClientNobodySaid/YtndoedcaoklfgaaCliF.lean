/-
  What all statements of layer 8 ask first (awake) is true.
  No condition.
-/
import Derived.Test.YtndoedcaoklfgaaCliE
namespace Go.Proofs.Ytndoedcaoklfgaa
open Go.RowKit
set_option linter.unusedVariables false
set_option linter.unusedSimpArgs false
set_option maxRecDepth 100000

theorem slot_of (c q : Nat) (hc : c < 8) (h8 : q % 8 = 0) (hq : q < 416) : slotP (c : Int) q ∧ slotN (c : Int) q = 64 + 416 * c + q := ⟨⟨⟨by omega, by omega⟩, h8, hq⟩, by unfold slotN; simp only [Int.toNat_natCast]⟩
/-- a word of a record, in a formatted segment -/
theorem fmt_slot {n : Nat} (h : fitsP n 4800) (c q : Nat) (hc : c < 8) (h8 : q % 8 = 0) (hq : q < 416) : getW (fmt48 n) (64 + 416 * c + q) = 0 := by
  have h2 := h.2.1
  rw [fmt48_yes h, getW_fmt (K := 600) h]
  have e1 : ¬ 64 + 416 * c + q = n - 8 := by omega
  have e2 : ¬ 64 + 416 * c + q = 3776 := by omega
  have e3 : ¬ 64 + 416 * c + q = 32 := by omega
  have e4 : ¬ 64 + 416 * c + q = 40 := by omega
  have e5 : ¬ 64 + 416 * c + q = 16 := by omega
  have e6 : ¬ 64 + 416 * c + q = 8 := by omega
  have e7 : ¬ 64 + 416 * c + q = 0 := by omega
  simp only [e1, e2, e3, e4, e5, e6, e7, if_false]
/-- .. as it is thought of, with one word otherwise -/
theorem get_one {n : Nat} (h : fitsP n 4800) (c v : Nat) (hc : c < 8) : cGet (fmt48 n) [(480, v)] (c : Int) 0 = if c = 1 then v else 0 := by
  obtain ⟨h1, h2⟩ := slot_of c 0 hc (by decide) (by decide)
  unfold cGet
  rw [if_pos h1, h2]
  unfold txSee txGet
  by_cases hc1 : c = 1
  · subst hc1; rfl
  · have e : ¬ 480 = 64 + 416 * c + 0 := by omega
    rw [if_neg hc1, if_neg e]
    exact fmt_slot h c 0 hc (by decide) (by decide)
theorem aw8_words : ∃ ws, fmt48 4000 = ws ∧ ws.length = 600 ∧ attE ws [] 1 = 0 ∧ attL ws [] 1 = [(480, 1)] ∧ attE ws [(480, 1)] 1 = 7 ∧ attL ws [(480, 1)] 1 = [(480, 1)] ∧ ofState (fun x => cGet ws [(480, 1)] x 0) 1 = [1] ∧ cSet ws [(480, 1)] 1 0 2 = [(480, 2)] ∧ cGet ws [(480, 2)] 1 0 = 2 ∧ attE ws [(480, 2)] 1 = 13 ∧ attL ws [(480, 2)] 1 = [(480, 2)] := by
  have h : fitsP 4000 4800 := by unfold fitsP; omega
  have hs : slotP 1 0 := by decide
  have ht : thereP 1 := by decide
  have hst : stands (fmt48 4000) 480 := stands48 (by decide) (by decide)
  have g0 : cGet (fmt48 4000) [] 1 0 = 0 := by
    unfold cGet
    rw [if_pos hs]
    exact fmt_slot h 1 0 (by decide) (by decide) (by decide)
  have g1 : cGet (fmt48 4000) [(480, 1)] 1 0 = 1 := get_one h 1 1 (by decide)
  have g2 : cGet (fmt48 4000) [(480, 2)] 1 0 = 2 := get_one h 1 2 (by decide)
  refine ⟨_, rfl, fmt48_len _, ?_, ?_, ?_, ?_, ?_, ?_, g2, ?_, ?_⟩
  · unfold attE; rw [if_pos ht, g0]; rfl
  · unfold attL; rw [if_pos ⟨ht, g0⟩]; unfold cSet; rw [if_pos hs]; rw [show slotN 1 0 = 480 from rfl]; unfold txStore; rw [if_pos hst]; rfl
  · unfold attE; rw [if_pos ht, g1]; rfl
  · unfold attL; rw [if_neg (by rw [g1]; omega)]
  · unfold ofState
    rw [List.filter_congr (q := fun x => decide ((if x = 1 then 1 else 0) = 1)) (fun x hx => by simp only [get_one h x 1 (List.mem_range.1 hx)])]
    rfl
  · unfold cSet; rw [if_pos hs]; rw [show slotN 1 0 = 480 from rfl]; unfold txStore; rw [if_pos hst]; rfl
  · unfold attE; rw [if_pos ht, g2]; rfl
  · unfold attL; rw [if_neg (by rw [g2]; omega)]
/-- a row of one number -/
theorem OwnI.one {w : World} {base : Nat} {v : Value} {x : Nat} (h : OwnI w base v [x]) : ∃ g c, v = .slice (some ⟨g, 0, none⟩) 1 c ∧ ∀ w', OwnI w' base v [x] → w'.cell? ⟨g, 0, none⟩ = some (.int .i64 (x : Nat)) := by
  obtain ⟨a, c, g, hv, ha, hc⟩ := h.addr
  have := ha (by simp)
  subst this
  exact ⟨g, c, hv, fun w' h' => hc w' h' 0 (by simp)⟩
set_option maxHeartbeats 4000000 in
theorem awake8 (w : World) : Calls Try.prog 9 #[] w fun e w' => e = .returned (.bool true) ∧ w.grownBy w' none := by
  have hfo : ∀ w, Calls Try.prog 10 #[.int .u64 4000, .slice none 0 0] w _ := fun w => formed8_nil 4000 (by decide) w
  obtain ⟨ws, ews, hl, a1, a2, a3, a4, a5, a6, a7, a8, a9⟩ := aw8_words
  rw [ews] at hfo
  have hwo : ∀ w, Calls Try.prog 22 #[.int .i64 1, .int .u64 0] w _ := fun w => cword_any 1 0 w
  rw [show wordN 1 0 = 480 by decide, show decide (slotP 1 0) = true by decide] at hwo
  have hat : ∀ (l : List (Nat × Nat)) (w : World) (T M : Nat) (R : Option Nat) (B D : Nat) (h : Thinks w T M R B D ws l), Calls Try.prog 24 #[.pointer (some ⟨T, 0, none⟩), .int .i64 1] w _ := fun l w T M R B D h => cattach_any h 1
  have hat0 := hat []
  have hat1 := hat [(480, 1)]
  have hat2 := hat [(480, 2)]
  rw [a1, a2] at hat0
  rw [a3, a4] at hat1
  rw [a8, a9] at hat2
  have hal : ∀ (w : World) (T M : Nat) (R : Option Nat) (B D : Nat) (h : Thinks w T M R B D ws [(480, 1)]), Calls Try.prog 20 #[.pointer (some ⟨T, 0, none⟩), .int .u64 1] w _ := fun w T M R B D h => call_any h 1
  rw [a5] at hal
  have hki : ∀ (w : World) (T M : Nat) (R : Option Nat) (B D : Nat) (h : Thinks w T M R B D ws [(480, 1)]), Calls Try.prog 27 #[.pointer (some ⟨T, 0, none⟩), .int .i64 1] w _ := fun w T M R B D h => ckill_any h 1
  rw [a6, show becE 1 = 0 by decide] at hki
  have hse : ∀ (w : World) (T M : Nat) (R : Option Nat) (B D : Nat) (h : Thinks w T M R B D ws [(480, 2)]), Calls Try.prog 14 #[.pointer (some ⟨T, 0, none⟩), .int .i64 1] w _ := fun w T M R B D h => cstate_any h 1
  rw [a7] at hse
  clear a1 a2 a3 a4 a5 a6 a7 a8 a9 ews hl hat
  have hg0 : w.grownBy (w.alloc (.cells #[.slice none 0 0, .slice none 0 0] 29)) none := World.grownBy_alloc _ _ _
  go_enter Try.func9, Try.ntmps9
  go_wp2_with (first | (go_at_call 10; go_must ((with_reducible refine (hfo _).mono ?_); rintro e w1 ⟨B, D, T, M, R, wv, pv, rfl, X1, hrt, _⟩; obtain ⟨wa, wn, wc, hwv⟩ := wv_form hrt.words; subst hwv; obtain ⟨pa, pn, pc, hpv⟩ := pv_form hrt.puts; subst hpv; have X2 := X1.later (World.grownBy_alloc w1 (.cells #[.slice wa wn wc, .slice pa pn pc] 29) none))) | (go_at_call 22; go_must ((with_reducible refine (hwo _).mono ?_); rintro e w2 ⟨rfl, rfl⟩)) | (go_at_call 24; ((with_reducible refine (hat0 _ _ _ _ _ _ X2.tx).mono ?_); rintro e w3 ⟨rfl, ht3⟩; obtain ⟨R3, X3, _⟩ := X2.step ht3)) | (go_at_call 24; ((with_reducible refine (hat1 _ _ _ _ _ _ X3.tx).mono ?_); rintro e w4 ⟨rfl, ht4⟩; obtain ⟨R4, X4, _⟩ := X3.step ht4)) | (go_at_call 20; go_must ((with_reducible refine (hal _ _ _ _ _ _ X4.tx).mono ?_); rintro e w5 ⟨lv, rfl, hown5, hg5⟩; have X5 := X4.later hg5; obtain ⟨lg, lc, hlv, hcell⟩ := hown5.one; subst hlv)) | (go_at_call 27; go_must ((with_reducible refine (hki _ _ _ _ _ _ X5.tx).mono ?_); rintro e w6 ⟨rfl, ht6⟩; obtain ⟨R6, X6, hT6, _⟩ := X5.step ht6; have hown6 := hown5.past X5.tx hT6; have c6 := hcell _ hown6)) | (go_at_call 14; go_must ((with_reducible refine (hse _ _ _ _ _ _ X6.tx).mono ?_); rintro e w7 ⟨rfl, hg7⟩; have X7 := X6.later hg7)) | (go_at_call 24; ((with_reducible refine (hat2 _ _ _ _ _ _ X7.tx).mono ?_); rintro e w8 ⟨rfl, ht8⟩; obtain ⟨R8, X8, _⟩ := X7.step ht8)))
  go_ret
  exact ⟨rfl, X8.since⟩
end Go.Proofs.Ytndoedcaoklfgaa
