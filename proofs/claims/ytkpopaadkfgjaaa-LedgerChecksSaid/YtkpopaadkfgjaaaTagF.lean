/-
  What all statements of layer 5 ask first (awake) is true.
  No condition.
-/
import Derived.Test.YtkpopaadkfgjaaaTagE
namespace Go.Proofs.Ytkpopaadkfgjaaa
open Go.RowKit
set_option linter.unusedVariables false
set_option linter.unusedSimpArgs false

theorem see_stored {ws : List Nat} {l : List (Nat × Nat)} {off v : Nat} (hs : stands ws off) (x : Nat) : txSee ws (txStore ws l off v) x = if x = off then v else txSee ws l x := by
  unfold txSee txStore
  rw [if_pos hs, txGet_set]
  by_cases e : x = off
  · rw [if_pos e, if_pos e]; rfl
  · rw [if_neg e, if_neg e]
theorem stands48 {n off : Nat} (h1 : off % 8 = 0) (h2 : off < 4800) : stands (fmt48 n) off := by
  unfold stands
  rw [fmt48_len]
  omega
/-- no pairs -/
theorem puts_none (w : World) : PutsAt w none 0 (fun _ => 0) (fun _ => 0) := ⟨fun _ => ⟨by decide, by decide⟩, fun h => absurd h (by decide)⟩
/-- the words that awake makes -/
theorem aw5_words : ∃ ws : List Nat, fmt48 4000 = ws ∧ ws.length = 600 ∧ txSee ws [] 16 = 4000 ∧ ∃ l, txStore ws (txStore ws [] 3776 12884901937) 3816 12884901937 = l ∧ (rdS (txSee ws l) 3776 = 48 ∧ rdU (txSee ws l) 3776 = true ∧ rdO (txSee ws l) 3776 = 3 ∧ rdE (txSee ws l) 3776 = 0) ∧
    (rdS (txSee ws l) 3824 = 0 ∧ rdU (txSee ws l) 3824 = false ∧ rdO (txSee ws l) 3824 = 0 ∧ rdE (txSee ws l) 3824 = 12) := by
  have h : fitsP 4000 4800 := by unfold fitsP; omega
  have h16 : txSee (fmt48 4000) [] 16 = 4000 := by rw [fmt48_yes h, see_nil]; exact fmt48_16 h
  refine ⟨_, rfl, fmt48_len _, h16, _, rfl, ?_, ?_⟩
  · have e1 : ∀ x, txSee (fmt48 4000) (txStore (fmt48 4000) (txStore (fmt48 4000) [] 3776 12884901937) 3816 12884901937) x = if x = 3816 then 12884901937 else if x = 3776 then 12884901937 else txSee (fmt48 4000) [] x := fun x => by
      rw [see_stored (stands48 (n := 4000) (off := 3816) (by decide) (by decide)), see_stored (stands48 (n := 4000) (off := 3776) (by decide) (by decide))]
    obtain ⟨f, hf⟩ : ∃ f, txSee (fmt48 4000) (txStore (fmt48 4000) (txStore (fmt48 4000) [] 3776 12884901937) 3816 12884901937) = f := ⟨_, rfl⟩
    rw [hf] at e1 ⊢
    have f1 : f 3776 = 12884901937 := by rw [e1]; rfl
    have f2 : f 3816 = 12884901937 := by rw [e1]; rfl
    have f3 : f 16 = 4000 := by rw [e1]; exact h16
    have hr : rdP f 3776 := by
      unfold rdP
      rw [f1, f3]
      exact ⟨by decide, by decide, f2⟩
    obtain ⟨r1, r2, r3, r4⟩ := rd_yes hr
    rw [r1, r2, r3, r4, f1]
    exact ⟨by decide, by decide, by decide, rfl⟩
  · refine rd_no (fun hr => not_mayW_0 ?_)
    have := hr.1
    rw [see_stored (stands48 (n := 4000) (off := 3816) (by decide) (by decide)), see_stored (stands48 (n := 4000) (off := 3776) (by decide) (by decide)), fmt48_yes h] at this
    rw [show txSee (fmtW 600 4000) [] 3824 = 0 by rw [see_nil, getW_fmt (K := 600) h]; rfl] at this
    exact this
theorem pack_aw5 : packN 48 true 3 = 12884901937 := by decide
end Go.Proofs.Ytkpopaadkfgjaaa
