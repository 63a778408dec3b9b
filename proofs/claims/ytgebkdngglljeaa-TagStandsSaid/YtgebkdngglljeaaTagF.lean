/-
  What all statements of layer 5 ask first (awake) is true.
  No condition.
-/
import Derived.Test.YtgebkdngglljeaaTagE
namespace Go.Proofs.Ytgebkdngglljeaa
open Go.RowKit
set_option linter.unusedVariables false
set_option linter.unusedSimpArgs false

theorem see_stored {ws : List Nat} {l : List (Nat × Nat)} {off v : Nat} (hs : stands ws off) (x : Nat) : txSee ws (txStore ws l off v) x = if x = off then v else txSee ws l x := by
  unfold txSee txStore
  rw [if_pos hs, txGet_set]
  by_cases e : x = off
  · rw [if_pos e, if_pos e]; rfl
  · rw [if_neg e, if_neg e]
theorem stands48 {n off : Nat} (h1 : off % 8 = 0) (h2 : off < 4800) : stands (fmt48 n) off := by
  unfold stands
  rw [fmt48_len]
  omega
/-- no pairs -/
theorem puts_none (w : World) : PutsAt w none 0 (fun _ => 0) (fun _ => 0) := ⟨fun _ => ⟨by decide, by decide⟩, fun h => absurd h (by decide)⟩
theorem formed_nil (n : Nat) (hn : n < 18446744073709551616) (w : World) : Calls Try.prog 16 #[.int .u64 n, .slice none 0 0] w (Formed w (fmt48 n) []) := formed_any (c2 := 0) hn (puts_none w) (by decide)
/-- the words that awake makes -/
theorem aw5_words : ∃ ws : List Nat, fmt48 4000 = ws ∧ ws.length = 600 ∧ txSee ws [] 16 = 4000 ∧ ∃ l, txStore ws (txStore ws [] 3776 12884901937) 3816 12884901937 = l ∧ (rdS (txSee ws l) 3776 = 48 ∧ rdU (txSee ws l) 3776 = true ∧ rdO (txSee ws l) 3776 = 3 ∧ rdE (txSee ws l) 3776 = 0) ∧
    (rdS (txSee ws l) 3824 = 0 ∧ rdU (txSee ws l) 3824 = false ∧ rdO (txSee ws l) 3824 = 0 ∧ rdE (txSee ws l) 3824 = 12) := by
  have h : fitsP 4000 4800 := by unfold fitsP; omega
  have h16 : txSee (fmt48 4000) [] 16 = 4000 := by rw [fmt48_yes h, see_nil]; exact fmt48_16 h
  refine ⟨_, rfl, fmt48_len _, h16, _, rfl, ?_, ?_⟩
  · have e1 : ∀ x, txSee (fmt48 4000) (txStore (fmt48 4000) (txStore (fmt48 4000) [] 3776 12884901937) 3816 12884901937) x = if x = 3816 then 12884901937 else if x = 3776 then 12884901937 else txSee (fmt48 4000) [] x := fun x => by
      rw [see_stored (stands48 (n := 4000) (off := 3816) (by decide) (by decide)), see_stored (stands48 (n := 4000) (off := 3776) (by decide) (by decide))]
    obtain ⟨f, hf⟩ : ∃ f, txSee (fmt48 4000) (txStore (fmt48 4000) (txStore (fmt48 4000) [] 3776 12884901937) 3816 12884901937) = f := ⟨_, rfl⟩
    rw [hf] at e1 ⊢
    have f1 : f 3776 = 12884901937 := by rw [e1]; rfl
    have f2 : f 3816 = 12884901937 := by rw [e1]; rfl
    have f3 : f 16 = 4000 := by rw [e1]; exact h16
    have hr : rdP f 3776 := by
      unfold rdP
      rw [f1, f3]
      exact ⟨by decide, by decide, f2⟩
    obtain ⟨r1, r2, r3, r4⟩ := rd_yes hr
    rw [r1, r2, r3, r4, f1]
    exact ⟨by decide, by decide, by decide, rfl⟩
  · refine rd_no (fun hr => not_mayW_0 ?_)
    have := hr.1
    rw [see_stored (stands48 (n := 4000) (off := 3816) (by decide) (by decide)), see_stored (stands48 (n := 4000) (off := 3776) (by decide) (by decide)), fmt48_yes h] at this
    rw [show txSee (fmtW 600 4000) [] 3824 = 0 by rw [see_nil, getW_fmt (K := 600) h]; rfl] at this
    exact this
theorem pack_aw5 : packN 48 true 3 = 12884901937 := by decide
set_option maxHeartbeats 2000000 in
theorem awake5 (w : World) : Calls Try.prog 8 #[] w fun e w' => e = .returned (.bool true) ∧ w.grownBy w' none := by
  have hfo : ∀ w, Calls Try.prog 16 #[.int .u64 4000, .slice none 0 0] w _ := fun w => formed_nil 4000 (by decide) w
  obtain ⟨ws, ews, hl, e16, l, el, ⟨a1, a2, a3, a4⟩, ⟨b1, b2, b3, b4⟩⟩ := aw5_words
  rw [ews] at hfo
  have hwr : ∀ (w : World) (T M : Nat) (R : Option Nat) (B D : Nat) (h : Thinks w T M R B D ws []), Calls Try.prog 19 #[.pointer (some ⟨T, 0, none⟩), .int .u64 3776, .agg #[.int .u64 48, .bool true, .int .i64 3]] w _ := fun w T M R B D h => twrite_yes h 3776 48 true 3 (by decide) (by decide) (by rw [e16]; decide)
  rw [pack_aw5, el] at hwr
  have hr1 : ∀ (w : World) (T M : Nat) (R : Option Nat) (B D : Nat) (h : Thinks w T M R B D ws l), Calls Try.prog 17 #[.pointer (some ⟨T, 0, none⟩), .int .u64 3776] w _ := fun w T M R B D h => tread_any h 3776 (by decide)
  have hr2 : ∀ (w : World) (T M : Nat) (R : Option Nat) (B D : Nat) (h : Thinks w T M R B D ws l), Calls Try.prog 17 #[.pointer (some ⟨T, 0, none⟩), .int .u64 3824] w _ := fun w T M R B D h => tread_any h 3824 (by decide)
  rw [a1, a2, a3, a4] at hr1
  rw [b1, b2, b3, b4] at hr2
  have hpk : ∀ w, Calls Try.prog 14 #[.agg #[.int .u64 48, .bool true, .int .i64 3]] w _ := fun w => tpack_any 48 true 3 w
  rw [pack_aw5] at hpk
  have hg0 : w.grownBy (w.alloc (.cells #[.int .u64 48, .bool true, .int .i64 3] 26)) none := World.grownBy_alloc _ _ _
  clear a1 a2 a3 a4 b1 b2 b3 b4 el ews e16 hl
  go_enter Try.func8, Try.ntmps8
  go_wp2_with (first | (go_at_call 16; ((with_reducible refine (hfo _).mono ?_); rintro e w1 ⟨B, D, T, M, R, wv, pv, rfl, X1, hrt, _⟩; obtain ⟨wa, wn, wc, hwv⟩ := wv_form hrt.words; subst hwv; obtain ⟨pa, pn, pc, hpv⟩ := pv_form hrt.puts; subst hpv; have X2 := X1.later (World.grownBy_alloc w1 (.cells #[.slice wa wn wc, .slice pa pn pc] 42) none); obtain ⟨q0, q1, q2⟩ := tag_cells (tag_first X2.since))) | (go_at_call 19; ((with_reducible refine (hwr _ _ _ _ _ _ X2.tx).mono ?_); rintro e w3 ⟨rfl, ht3⟩; obtain ⟨R3, X3, _⟩ := X2.step ht3)) | (go_at_call 17; ((with_reducible refine (hr1 _ _ _ _ _ _ X3.tx).mono ?_); rintro e w4 ⟨rfl, hg4⟩; have hga := World.grownBy_alloc w4 (.cells #[.int .u64 48, .bool true, .int .i64 3] 26) none; have X4 := X3.later (grown_trans hg4 hga))) | (go_at_call 17; ((with_reducible refine (hr2 _ _ _ _ _ _ X4.tx).mono ?_); rintro e w5 ⟨rfl, hg5⟩; have hgb := World.grownBy_alloc w5 (.cells #[.int .u64 0, .bool false, .int .i64 0] 26) none; have X5 := X4.later (grown_trans hg5 hgb); obtain ⟨q0, q1, q2⟩ := tag_cells (tag_first X5.since))) | (go_at_call 14; ((with_reducible refine (hpk _).mono ?_); rintro e w6 ⟨rfl, hg6⟩; have X6 := X5.later hg6; obtain ⟨q0, q1, q2⟩ := tag_cells (tag_first X6.since); obtain ⟨y0, y1, y2⟩ := tag_cells (tag_first (grown_trans hg5 (grown_trans hgb hg6))); obtain ⟨z0, z1, z2⟩ := tag_cells (tag_first hg6))))
  go_ret
  exact ⟨rfl, grown_trans hg0 X6.since⟩
end Go.Proofs.Ytgebkdngglljeaa
