/-
  The row of blocks of a laid heap, and what is found in it: plain mathematics of layer 6.
  No condition.
-/
import Derived.Test.YtmhkibdbamhdoaaPhysL
namespace Go.Proofs.Ytmhkibdbamhdoaa
open Go.RowKit
set_option linter.unusedVariables false
set_option linter.unusedSimpArgs false

/-- Blocks one behind the other, from the heap's begin to its end; g: where each begins. -/
structure Row6 (bl : List Blk) (N : Nat) (g : Nat → Nat) : Prop where
  len : bl.length = N
  pos : 0 < N
  first : g 0 = 3776
  last : g N = 4480
  off : ∀ k, k < N → gO bl k = g k
  size : ∀ k, k < N → g k + gS bl k = g (k + 1)
  step : ∀ i j, i < j → j ≤ N → g i + 48 ≤ g j
  le : ∀ k, k ≤ N → g k ≤ 4480
theorem Laid6.row {l : List (Nat × Nat)} {N : Nat} (h : Laid6 l N) : ∃ bl g, Heap (fmt48 4480) l bl 0 ∧ Row6 bl N g := by
  have h16 : offs (txSee (fmt48 4480) l) N = 4480 := h.ends
  refine ⟨blks (txSee (fmt48 4480) l) N, offs (txSee (fmt48 4480) l), ⟨.inr ⟨h.chk, N, true, h.walks, rfl, rfl⟩, ?_⟩, blks_len _ _, h.some, rfl, h.ends, fun k hk => ?_, fun k hk => ?_, fun i j hij hj => h.walks.mono hij hj, fun k hk => ?_⟩
  · rw [blks_len]
    exact walks_small (by rw [fmt48_len]; decide) h.chk h.walks
  · unfold gO
    rw [blks_get _ hk]
    rfl
  · unfold gS
    rw [blks_get _ hk]
    rfl
  · rcases Nat.lt_or_ge k N with h1 | h1
    · have := h.walks.mono h1 (Nat.le_refl _)
      omega
    · obtain rfl : k = N := by omega
      omega
section
variable {bl : List Blk} {N : Nat} {g : Nat → Nat}
theorem Row6.inj (h : Row6 bl N g) {i j : Nat} (hi : i < N) (hj : j < N) (he : g i = g j) : i = j := by
  rcases Nat.lt_trichotomy i j with h1 | h1 | h1
  · have := h.step i j h1 (by omega); omega
  · exact h1
  · have := h.step j i h1 (by omega); omega
theorem Row6.fst (h : Row6 bl N g) {k : Nat} (hk : k < N) : fstN (pO (g k)) bl = some k := by
  refine fstN_is (by rw [h.len]; exact hk) ?_ (fun j hj => ?_)
  · show decide (gO bl k = g k) = true
    exact decide_eq_true (h.off k hk)
  · show decide (gO bl j = g k) = false
    rw [h.off j (by omega)]
    exact decide_eq_false (fun e => by have := h.step j k hj (by omega); omega)
theorem Row6.after (h : Row6 bl N g) {k : Nat} (hk : k < N) : besN (pO (g k)) bl 1 = if k + 1 < N then some (bl.getD (k + 1) default) else none := by
  unfold besN
  rw [h.fst hk]
  simp only
  rw [h.len]
  by_cases h1 : k + 1 < N
  · rw [if_pos (by omega), if_pos h1]
    rfl
  · rw [if_neg (by omega), if_neg h1]
theorem Row6.before (h : Row6 bl N g) {k : Nat} (hk : k + 1 < N) : besN (pO (g (k + 1))) bl (-1) = some (bl.getD k default) := by
  unfold besN
  rw [h.fst hk]
  simp only
  rw [h.len, if_pos (by omega)]
  have : (((k + 1 : Nat) : Int) + -1).toNat = k := by omega
  rw [this]
theorem Row6.find (h : Row6 bl N g) {k : Nat} (hk : k < N) (hu : gU bl k = true) : besN (pF (g k + 32)) bl 0 = some (bl.getD k default) := by
  have hl := h.le k (by omega)
  have e : fstN (pF (g k + 32)) bl = some k := by
    refine fstN_is (by rw [h.len]; exact hk) ?_ (fun j hj => ?_)
    · show (gU bl k && decide ((gO bl k + 32) % 18446744073709551616 = g k + 32)) = true
      rw [hu, h.off k hk]
      simp
      omega
    · show (gU bl j && decide ((gO bl j + 32) % 18446744073709551616 = g k + 32)) = false
      rw [h.off j (by omega)]
      have := h.step j k hj (by omega)
      rw [decide_eq_false (by omega), Bool.and_false]
  unfold besN
  rw [e]
  simp only
  rw [h.len, if_pos (by omega)]
  have : (((k : Nat) : Int) + 0).toNat = k := by omega
  rw [this]
theorem Row6.find_not (h : Row6 bl N g) {k : Nat} (hk : k < N) (hu : gU bl k = false) : besN (pF (g k + 32)) bl 0 = none := by
  have hl := h.le k (by omega)
  have e : fstN (pF (g k + 32)) bl = none := by
    refine fstN_not (fun j hj => ?_)
    rw [h.len] at hj
    show (gU bl j && decide ((gO bl j + 32) % 18446744073709551616 = g k + 32)) = false
    by_cases ej : j = k
    · subst ej
      rw [hu, Bool.false_and]
    · rw [h.off j hj, decide_eq_false, Bool.and_false]
      intro he
      have := h.le j (by omega)
      exact ej (h.inj hj hk (by omega))
  unfold besN
  rw [e]
theorem Row6.within (h : Row6 bl N g) {k m : Nat} (hk : k < N) (hm : m < 15) : besN (pF (g k + 33 + m)) bl 0 = none := by
  have hl := h.le k (by omega)
  have e : fstN (pF (g k + 33 + m)) bl = none := by
    refine fstN_not (fun j hj => ?_)
    rw [h.len] at hj
    show (gU bl j && decide ((gO bl j + 32) % 18446744073709551616 = g k + 33 + m)) = false
    rw [h.off j hj, decide_eq_false, Bool.and_false]
    intro he
    have := h.le j (by omega)
    rcases Nat.lt_trichotomy j k with h1 | rfl | h1
    · have := h.step j k h1 (by omega); omega
    · omega
    · have := h.step k j h1 (by omega); omega
  unfold besN
  rw [e]
end
end Go.Proofs.Ytmhkibdbamhdoaa
