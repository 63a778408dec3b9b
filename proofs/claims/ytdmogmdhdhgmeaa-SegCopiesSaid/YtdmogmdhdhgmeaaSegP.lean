/-
  What Diff tells of a segment and of one with a word stored; a pair in a block of its own.
  No condition.
-/
import Derived.Test.YtdmogmdhdhgmeaaSegO
namespace Go.Proofs.Ytdmogmdhdhgmeaa
open Go.RowKit
set_option linter.unusedVariables false
set_option linter.unusedSimpArgs false

theorem diff_same (a : List Nat) : ∀ m, diffL a a m = []
  | 0 => rfl
  | m + 1 => by
    rw [diffL_no (fun h => by rcases h with h | h <;> exact h rfl)]
    exact diff_same a m
theorem stands_put (ws : List Nat) (x y off : Nat) : stands (put ws x y) off ↔ stands ws off := by unfold stands; rw [put_len]
theorem errW_put (ws : List Nat) (x y off : Nat) : errW (put ws x y) off = errW ws off := by
  unfold errW
  by_cases h : stands ws off
  · rw [if_pos h, if_pos ((stands_put ws x y off).2 h)]
  · rw [if_neg h, if_neg (fun h' => h ((stands_put ws x y off).1 h'))]
theorem getW_put {ws : List Nat} {x : Nat} (y off : Nat) (h : stands ws x) : getW (put ws x y) off = if off = x then y else getW ws off := by
  by_cases ho : stands ws off
  · have h1 := (stands_put ws x y off).2 ho
    unfold getW
    rw [if_pos h1, if_pos ho]
    unfold put
    rw [if_pos h]
    have hx := h.1
    have hx2 := h.2
    have ho1 := ho.1
    by_cases e : off = x
    · subst e
      rw [if_pos rfl, List.getD_eq_getElem?_getD, List.getElem?_set_self (by omega)]
      rfl
    · rw [if_neg e, List.getD_eq_getElem?_getD, List.getElem?_set_ne (by omega), List.getD_eq_getElem?_getD]
  · have e : off ≠ x := fun e => ho (e ▸ h)
    unfold getW
    rw [if_neg (fun h' => ho ((stands_put ws x y off).1 h')), if_neg ho, if_neg e]
theorem diff_put {ws : List Nat} {x y : Nat} (h : stands ws x) : ∀ m, diffL ws (put ws x y) m = if x < 8 * m ∧ y ≠ getW ws x then [x] else []
  | 0 => by rw [if_neg (by omega)]; rfl
  | m + 1 => by
    have ih := diff_put (y := y) h m
    have hu : unlikeP ws (put ws x y) (8 * m) ↔ 8 * m = x ∧ y ≠ getW ws x := by
      unfold unlikeP
      rw [errW_put, getW_put y _ h]
      by_cases e : 8 * m = x
      · rw [if_pos e, e]
        constructor
        · rintro (h' | h')
          · exact ⟨rfl, fun h2 => h' h2.symm⟩
          · exact absurd rfl h'
        · rintro ⟨_, h2⟩
          exact .inl (fun h3 => h2 h3.symm)
      · rw [if_neg e]
        constructor
        · rintro (h' | h') <;> exact absurd rfl h'
        · rintro ⟨h2, _⟩
          exact absurd h2 e
    have hx := h.1
    by_cases hc : 8 * m = x ∧ y ≠ getW ws x
    · rw [diffL_yes (hu.2 hc), ih, if_neg (by omega), if_pos ⟨by omega, hc.2⟩, hc.1]
      rfl
    · rw [diffL_no (fun h' => hc (hu.1 h')), ih]
      by_cases h1 : x < 8 * m ∧ y ≠ getW ws x
      · rw [if_pos h1, if_pos ⟨by omega, h1.2⟩]
      · rw [if_neg h1, if_neg (by omega)]

/-- A pair in a block of its own. -/
def PairAt (w : World) (b x y : Nat) : Prop := w.heap[b]? = some (.cells #[.int .u64 (x : Nat), .int .u64 (y : Nat)] 38 (0, 0))
theorem PairAt.made (w : World) (x y : Nat) : PairAt (w.alloc (.cells #[.int .u64 (x : Nat), .int .u64 (y : Nat)] 38)) w.heap.size x y := heap_alloc_new' _ _
theorem PairAt.kept {w w' : World} {b x y : Nat} (h : PairAt w b x y) {row : Option Nat} (hg : w.grownBy w' row) (hne : row ≠ some b) : PairAt w' b x y := (hg.block b (lt_of_block h) hne.symm).trans h
theorem PairAt.later {w w' : World} {b x y : Nat} (h : PairAt w b x y) (hg : w.grownBy w' none) : PairAt w' b x y := h.kept hg (by simp)
theorem PairAt.c0 {w : World} {b x y : Nat} (h : PairAt w b x y) : w.cell? ⟨b, 0, none⟩ = some (.int .u64 (x : Nat)) := by unfold PairAt at h; simp [World.cell?, h]
theorem PairAt.c1 {w : World} {b x y : Nat} (h : PairAt w b x y) : w.cell? ⟨b, 1, none⟩ = some (.int .u64 (y : Nat)) := by unfold PairAt at h; simp [World.cell?, h]
theorem PairAt.lt {w : World} {b x y : Nat} (h : PairAt w b x y) : b < w.heap.size := lt_of_block h
end Go.Proofs.Ytdmogmdhdhgmeaa
