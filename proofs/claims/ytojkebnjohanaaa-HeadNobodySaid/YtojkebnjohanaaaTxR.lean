/-
  The contracts of the plain answers of layer 3: Load of words; at, Old and Load of words that are thought of.
  Conditions: the words, and the pairs, are rows of the call's own, or nil; the numbers are of 64 bits.
-/
import Derived.Test.YtojkebnjohanaaaTxE
import Derived.Laws.StructEq
import Derived.Deep.AppendLies
import Derived.Laws.AppendOwnNone
namespace Go.Proofs.Ytojkebnjohanaaa
open Go.RowKit
set_option linter.unusedVariables false
set_option linter.unusedSimpArgs false

/-! ### Places -/
/-- the place of an offset -/
def txAt : List (Nat × Nat) → Nat → Option Nat
  | [], _ => none
  | p :: r, off => if p.1 = off then some 0 else (txAt r off).map (· + 1)
theorem txAt_none {l : List (Nat × Nat)} {off : Nat} : txAt l off = none ↔ txGet l off = none := by
  induction l with
  | nil => simp [txAt, txGet]
  | cons p r ih =>
    unfold txAt txGet
    by_cases e : p.1 = off
    · rw [if_pos e, if_pos e]; simp
    · rw [if_neg e, if_neg e, ← ih]; simp
theorem txX_cons (p : Nat × Nat) (r : List (Nat × Nat)) (k : Nat) : txX (p :: r) (k + 1) = txX r k := by simp [txX]
theorem txV_cons (p : Nat × Nat) (r : List (Nat × Nat)) (k : Nat) : txV (p :: r) (k + 1) = txV r k := by simp [txV]
theorem txAt_some {l : List (Nat × Nat)} {off i : Nat} (h : txAt l off = some i) : i < l.length ∧ txX l i = off ∧ txGet l off = some (txV l i) ∧ (∀ v, txSet l off v = l.set i (off, v)) ∧ ∀ j, j < i → txX l j ≠ off := by
  induction l generalizing i with
  | nil => cases h
  | cons p r ih =>
    unfold txAt at h
    by_cases e : p.1 = off
    · rw [if_pos e] at h
      injection h with h
      subst h
      refine ⟨by simp, by simpa [txX] using e, by unfold txGet; rw [if_pos e]; rfl, fun v => by unfold txSet; rw [if_pos e]; rfl, fun j hj => absurd hj (Nat.not_lt_zero _)⟩
    · rw [if_neg e] at h
      rcases e2 : txAt r off with _ | k
      · rw [e2] at h; cases h
      · rw [e2] at h
        injection h with h
        simp only at h
        subst h
        obtain ⟨h1, h2, h3, h4, h5⟩ := ih e2
        refine ⟨by simpa using h1, by rw [txX_cons]; exact h2, by unfold txGet; rw [if_neg e, h3, txV_cons], fun v => by unfold txSet; rw [if_neg e, h4]; rfl, fun j hj => ?_⟩
        rcases j with _ | j
        · simpa [txX] using e
        · rw [txX_cons]; exact h5 j (by omega)
theorem txAt_nobody {l : List (Nat × Nat)} {off : Nat} (h : txAt l off = none) : ∀ j, j < l.length → txX l j ≠ off := by
  induction l with
  | nil => intro j hj; exact absurd hj (Nat.not_lt_zero _)
  | cons p r ih =>
    unfold txAt at h
    by_cases e : p.1 = off
    · rw [if_pos e] at h; cases h
    · rw [if_neg e] at h
      have h2 : txAt r off = none := by
        rcases e2 : txAt r off with _ | k
        · rfl
        · rw [e2] at h; cases h
      intro j hj
      rcases j with _ | j
      · simpa [txX] using e
      · rw [txX_cons]; exact ih h2 j (by simpa using hj)

/-! ### Rows of pairs -/
theorem cellsP_len (l : List (Nat × Nat)) : (cellsP l).length = l.length * 2 := by
  induction l with
  | nil => rfl
  | cons p r ih =>
    unfold cellsP at ih ⊢
    rw [List.flatMap_cons, List.length_append, ih, List.length_cons]
    simp only [List.length_cons, List.length_nil]
    omega
theorem cellsP_app (a b : List (Nat × Nat)) : cellsP (a ++ b) = cellsP a ++ cellsP b := by simp [cellsP, List.flatMap_append]
theorem cellsP_one (l : List (Nat × Nat)) : ∀ u ∈ cellsP l, u.oneCell' = true := by
  intro u hu
  obtain ⟨p, _, h⟩ := List.mem_flatMap.1 hu
  simp at h
  rcases h with rfl | rfl <;> rfl
theorem cellsP_at (l : List (Nat × Nat)) (k : Nat) (h : k < l.length) : (cellsP l)[k * 2]? = some (.int .u64 (txX l k : Nat)) ∧ (cellsP l)[k * 2 + 1]? = some (.int .u64 (txV l k : Nat)) := by
  induction l generalizing k with
  | nil => exact absurd h (Nat.not_lt_zero _)
  | cons p r ih =>
    have e : cellsP (p :: r) = .int .u64 (p.1 : Nat) :: .int .u64 (p.2 : Nat) :: cellsP r := rfl
    rw [e]
    rcases k with _ | k
    · exact ⟨rfl, rfl⟩
    · have := ih k (by simpa using h)
      rw [show (k + 1) * 2 = k * 2 + 1 + 1 by omega, List.getElem?_cons_succ, List.getElem?_cons_succ, List.getElem?_cons_succ, List.getElem?_cons_succ, txX_cons, txV_cons]
      exact this
theorem OwnP.later {w w' : World} {base : Nat} {v : Value} {l : List (Nat × Nat)} (h : OwnP w base v l) (hg : w.grownBy w' none) : OwnP w' base v l := own_kept h hg
theorem OwnP.addr {w : World} {base : Nat} {v : Value} {l : List (Nat × Nat)} (h : OwnP w base v l) : ∃ a c g, v = .slice a l.length c ∧ (0 < l.length → a = some ⟨g, 0, none⟩) ∧
    ∀ w', OwnP w' base v l → ∀ k, k < l.length → w'.cell? ⟨g, k * 2, none⟩ = some (.int .u64 (txX l k : Nat)) ∧ w'.cell? ⟨g, k * 2 + 1, none⟩ = some (.int .u64 (txV l k : Nat)) := by
  rcases h.2 with ⟨h1, h2⟩ | ⟨g, cap, cur, hv, _⟩
  · exact ⟨none, 0, 0, by rw [h1, h2], fun h => by omega, fun w' _ j hj => by omega⟩
  · refine ⟨_, cap, g, hv, fun _ => rfl, fun w' h' k hk => ?_⟩
    rw [hv] at h'
    have hl := cellsP_len l
    have c0 := World.ownsRow.cellAt h' (k * 2) (by omega)
    have c1 := World.ownsRow.cellAt h' (k * 2 + 1) (by omega)
    obtain ⟨e0, e1⟩ := cellsP_at l k hk
    exact ⟨c0.trans e0, c1.trans e1⟩

/-! ### at -/
theorem txAt_is {l : List (Nat × Nat)} {off k : Nat} (h : k < l.length) (hx : txX l k = off) (hj : ∀ j, j < k → txX l j ≠ off) : txAt l off = some k := by
  rcases e : txAt l off with _ | i
  · exact absurd hx (txAt_nobody e k h)
  · obtain ⟨h1, h2, _, _, h5⟩ := txAt_some e
    rcases Nat.lt_trichotomy i k with hlt | heq | hgt
    · exact absurd h2 (hj i hlt)
    · rw [heq]
    · exact absurd hx (h5 k hgt)
theorem txAt_not {l : List (Nat × Nat)} {off : Nat} (hj : ∀ j, j < l.length → txX l j ≠ off) : txAt l off = none := by
  rcases e : txAt l off with _ | i
  · rfl
  · obtain ⟨h1, h2, _⟩ := txAt_some e
    exact absurd h2 (hj i h1)
/-- Words that are thought of, as the plain answer has them: a value of two rows. -/
structure RTx (w : World) (base : Nat) (wv pv : Value) (ws : List Nat) (l : List (Nat × Nat)) : Prop where
  words : OwnW w base wv ws
  puts : OwnP w base pv l
theorem RTx.later {w w' : World} {base : Nat} {wv pv : Value} {ws : List Nat} {l : List (Nat × Nat)} (h : RTx w base wv pv ws l) (hg : w.grownBy w' none) : RTx w' base wv pv ws l := ⟨h.words.later hg, h.puts.later hg⟩
end Go.Proofs.Ytojkebnjohanaaa
