/-
  Blocks in a row, as plain mathematics: where each begins, how many there are, and whether they end where the heap does.
  No condition.
-/
import Derived.Test.YtkpopaadkfgjaaaPhysA
namespace Go.Proofs.Ytkpopaadkfgjaaa
open Go.RowKit
set_option linter.unusedVariables false
set_option linter.unusedSimpArgs false

/-- where the k-th block begins -/
def offs (f : Nat → Nat) : Nat → Nat
  | 0 => 3776
  | k + 1 => offs f k + usz (f (offs f k))
/-- So many whole blocks stand one behind the other; ok: they end at the heap's end; else what is next is no block. -/
structure Walks (f : Nat → Nat) (N : Nat) (ok : Bool) : Prop where
  lt : ∀ k, k < N → offs f k < f 16 ∧ bkP f (offs f k)
  fin : if ok then f 16 ≤ offs f N else offs f N < f 16 ∧ ¬ bkP f (offs f N)
theorem bk_ge {f : Nat → Nat} {off : Nat} (h : bkP f off) : 48 ≤ usz (f off) ∧ off + usz (f off) ≤ f 16 ∧ off < f 16 ∧ 3776 ≤ off ∧ off % 16 = 0 := by
  have h1 := mayW_size h.1.1
  have h2 := h.1.2.1
  unfold inP at h2
  omega
theorem walks_from (f : Nat → Nat) : ∀ (m k : Nat), f 16 - offs f k ≤ m → (∀ j, j < k → offs f j < f 16 ∧ bkP f (offs f j)) → ∃ N ok, Walks f N ok := by
  intro m
  induction m with
  | zero =>
    intro k h hk
    exact ⟨k, true, hk, by rw [if_pos rfl]; omega⟩
  | succ m ih =>
    intro k h hk
    by_cases h1 : offs f k < f 16
    · by_cases h2 : bkP f (offs f k)
      · refine ih (k + 1) ?_ (fun j hj => ?_)
        · have := (bk_ge h2).1
          show f 16 - (offs f k + usz (f (offs f k))) ≤ m
          omega
        · rcases Nat.lt_succ_iff_lt_or_eq.1 hj with h3 | rfl
          · exact hk j h3
          · exact ⟨h1, h2⟩
      · exact ⟨k, false, hk, by rw [if_neg (by simp)]; exact ⟨h1, h2⟩⟩
    · exact ⟨k, true, hk, by rw [if_pos rfl]; omega⟩
theorem walks_some (f : Nat → Nat) : ∃ N ok, Walks f N ok := walks_from f _ 0 (Nat.le_refl _) (fun j hj => absurd hj (Nat.not_lt_zero _))
section
variable {f : Nat → Nat} {N : Nat} {ok : Bool}
theorem Walks.ge (h : Walks f N ok) : ∀ k, k ≤ N → 3776 + 48 * k ≤ offs f k := by
  intro k
  induction k with
  | zero => intro _; exact Nat.le_refl _
  | succ k ih =>
    intro hk
    have h1 := ih (by omega)
    have h2 := bk_ge (h.lt k (by omega)).2
    show 3776 + 48 * (k + 1) ≤ offs f k + usz (f (offs f k))
    omega
theorem Walks.le (h : Walks f N ok) (hz : 3776 ≤ f 16) : ∀ k, k ≤ N → offs f k ≤ f 16 := by
  intro k
  cases k with
  | zero => intro _; exact hz
  | succ k =>
    intro hk
    exact (bk_ge (h.lt k (by omega)).2).2.1
/-- the blocks' row is short -/
theorem Walks.len (h : Walks f N ok) : 48 * N ≤ f 16 := by
  cases N with
  | zero => omega
  | succ k =>
    have h1 := h.ge (k + 1) (Nat.le_refl _)
    have h2 := (bk_ge (h.lt k (Nat.lt_succ_self k)).2).2.1
    have e : offs f (k + 1) = offs f k + usz (f (offs f k)) := rfl
    omega
theorem Walks.mono (h : Walks f N ok) {i j : Nat} (hij : i < j) (hj : j ≤ N) : offs f i + 48 ≤ offs f j := by
  induction j with
  | zero => omega
  | succ j ih =>
    have h2 := (bk_ge (h.lt j (by omega)).2).1
    have e : offs f (j + 1) = offs f j + usz (f (offs f j)) := rfl
    rcases Nat.lt_succ_iff_lt_or_eq.1 hij with h3 | rfl
    · have := ih h3 (by omega); omega
    · omega
theorem Walks.inj (h : Walks f N ok) {i j : Nat} (hi : i < N) (hj : j < N) (he : offs f i = offs f j) : i = j := by
  rcases Nat.lt_trichotomy i j with h1 | h1 | h1
  · have := h.mono h1 (Nat.le_of_lt hj); omega
  · exact h1
  · have := h.mono h1 (Nat.le_of_lt hi); omega
end
/-- all blocks, and what is told of them -/
def blks (f : Nat → Nat) (N : Nat) : List Blk := (List.range N).map fun k => bkAt f (offs f k)
theorem blks_len (f : Nat → Nat) (N : Nat) : (blks f N).length = N := by simp [blks]
theorem blks_get (f : Nat → Nat) {N k : Nat} (h : k < N) : (blks f N).getD k default = bkAt f (offs f k) := by
  unfold blks
  rw [List.getD_eq_getElem?_getD, List.getElem?_map, List.getElem?_range h]
  rfl
theorem blks_succ (f : Nat → Nat) (N : Nat) : blks f (N + 1) = blks f N ++ [bkAt f (offs f N)] := by
  unfold blks
  rw [List.range_succ, List.map_append]
  rfl
def wkL (f : Nat → Nat) (N : Nat) (ok : Bool) : List Blk := if ok then blks f N else []
def wkE (ok : Bool) : Nat := if ok then 0 else 12
/-! cells of rows of blocks -/
def cellsB (l : List Blk) : List Value := l.flatMap Blk.row
theorem cellsB_snoc (l : List Blk) (b : Blk) : cellsB (l ++ [b]) = cellsB l ++ b.row := by simp [cellsB, List.flatMap_append]
theorem cellsB_len (l : List Blk) : (cellsB l).length = l.length * 5 := by
  induction l with
  | nil => rfl
  | cons b l ih =>
    show (b.row ++ cellsB l).length = _
    rw [List.length_append, ih]
    simp [Blk.row]
    omega
theorem cellsB_at (l : List Blk) (k i : Nat) (h : k < l.length) (hi : i < 5) : (cellsB l)[k * 5 + i]? = (l.getD k default).row[i]? := by
  induction l generalizing k with
  | nil => simp at h
  | cons b l ih =>
    show (b.row ++ cellsB l)[k * 5 + i]? = _
    have hb : b.row.length = 5 := rfl
    cases k with
    | zero =>
      rw [List.getElem?_append_left (by rw [hb]; omega)]
      simp
    | succ k =>
      rw [List.getElem?_append_right (by rw [hb]; omega), hb, show (k + 1) * 5 + i - 5 = k * 5 + i by omega, ih k (by simpa using h)]
      simp
theorem cellsB_one (l : List Blk) : ∀ u ∈ cellsB l, u.oneCell' = true := by
  intro u hu
  unfold cellsB at hu
  rw [List.mem_flatMap] at hu
  obtain ⟨b, _, hb⟩ := hu
  simp [Blk.row] at hb
  rcases hb with rfl | rfl | rfl | rfl | rfl <;> rfl
end Go.Proofs.Ytkpopaadkfgjaaa
