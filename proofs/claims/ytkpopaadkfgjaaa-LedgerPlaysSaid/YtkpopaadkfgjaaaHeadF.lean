/-
  What all statements of layer 4 ask first (awake) is true; all words of a segment.
  No condition.
-/
import Derived.Test.YtkpopaadkfgjaaaHeadD
import Derived.Test.YtkpopaadkfgjaaaHeadE
namespace Go.Proofs.Ytkpopaadkfgjaaa
open Go.RowKit
set_option linter.unusedVariables false
set_option linter.unusedSimpArgs false

theorem chk_fmt {K n : Nat} (h : fitsP n (8 * K)) : chkP (fmtW K n) [] := by
  have h2 := h.2.1
  have e0 : txSee (fmtW K n) [] 0 = 7161130718081542961 := by rw [see_nil, getW_fmt h]; simp; omega
  have e1 : txSee (fmtW K n) [] 8 = 1 := by rw [see_nil, getW_fmt h]; simp; omega
  have e2 : txSee (fmtW K n) [] 16 = n := by rw [see_nil, getW_fmt h]; simp; omega
  have e5 : txSee (fmtW K n) [] 40 = sumN n := by rw [see_nil, getW_fmt h]; simp; omega
  unfold chkP
  rw [e0, e1, e2, e5, fmtW_len]
  exact ⟨h, rfl, rfl, rfl⟩
theorem fmt_yes {ws : List Nat} {n : Nat} (h : fitsP n (8 * ws.length)) : fmt ws n = fmtW ws.length n ∧ fmtE ws n = 0 := ⟨if_pos h, if_pos h⟩
theorem fmt_no {ws : List Nat} {n : Nat} (h : ¬ fitsP n (8 * ws.length)) : fmt ws n = ws ∧ fmtE ws n = 2 := ⟨if_neg h, if_neg h⟩
theorem fmt_len (ws : List Nat) (n : Nat) : (fmt ws n).length = ws.length := by unfold fmt; split; exact fmtW_len _ _; rfl
/-- the words that 'awake' makes -/
theorem aw4_words : ∃ ws, fmtW 512 4000 = ws ∧ ws.length = 512 ∧ txSee ws [] 16 = 4000 ∧ txSee ws [] 32 = 3776 ∧ chkN ws [] = 0 ∧ txSee ws [] 3776 = 224 ∧ txSee ws [] 3992 = 224 := by
  have h : fitsP 4000 (8 * 512) := by unfold fitsP; omega
  refine ⟨_, rfl, fmtW_len _ _, ?_, ?_, if_pos (chk_fmt h), ?_, ?_⟩ <;> rw [see_nil, getW_fmt h] <;> rfl
theorem aw4_new (w : World) : Calls Try.prog 22 #[.int .u64 4096] w fun e w' => e = .returned (.pointer (some ⟨w.heap.size + 1, 0, none⟩)) ∧ w.grownBy w' none ∧ IsSeg w' (w.heap.size + 1) w.heap.size (List.replicate 512 0) := new_yes 512 (by decide) (by decide) w
theorem aw4_format {w : World} {B D : Nat} (h : IsSeg w B D (List.replicate 512 0)) : Calls Try.prog 23 #[.pointer (some ⟨B, 0, none⟩), .int .u64 4000] w fun e w' => e = .returned (.int .i64 0) ∧ w.grownBy w' (some D) ∧ IsSeg w' B D (fmtW 512 4000) := by
  have hf : fitsP 4000 (8 * (List.replicate 512 0).length) := by rw [List.length_replicate]; unfold fitsP; omega
  refine (format_any h 4000 (by decide)).mono ?_
  rintro e w' ⟨rfl, hg, hs⟩
  rw [(fmt_yes hf).1, List.length_replicate] at hs
  rw [(fmt_yes hf).2]
  exact ⟨rfl, hg, hs⟩
/-! ### words -/
end Go.Proofs.Ytkpopaadkfgjaaa
