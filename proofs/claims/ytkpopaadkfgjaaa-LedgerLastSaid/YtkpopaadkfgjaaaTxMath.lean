/-
  Words that are thought of, applied: the plain mathematics of layer 3's last statements.
  No condition.
-/
import Derived.Test.YtkpopaadkfgjaaaTxZ
namespace Go.Proofs.Ytkpopaadkfgjaaa
open Go.RowKit
set_option linter.unusedVariables false
set_option linter.unusedSimpArgs false

theorem stands_put' (ws : List Nat) (x y off : Nat) : stands (put ws x y) off ↔ stands ws off := by unfold stands; rw [put_len]
theorem getW_put' {ws : List Nat} {x : Nat} (y off : Nat) (h : stands ws x) : getW (put ws x y) off = if off = x then y else getW ws off := by
  by_cases ho : stands ws off
  · have h1 := (stands_put' ws x y off).2 ho
    unfold getW
    rw [if_pos h1, if_pos ho]
    unfold put
    rw [if_pos h]
    have hx := h.1
    have hx2 := h.2
    have ho1 := ho.1
    by_cases e : off = x
    · subst e
      rw [if_pos rfl, List.getD_eq_getElem?_getD, List.getElem?_set_self (by omega)]
      rfl
    · rw [if_neg e, List.getD_eq_getElem?_getD, List.getElem?_set_ne (by omega), List.getD_eq_getElem?_getD]
  · have e : off ≠ x := fun e => ho (e ▸ h)
    unfold getW
    rw [if_neg (fun h' => ho ((stands_put' ws x y off).1 h')), if_neg ho, if_neg e]
/-- Words are told by what stands at their offsets. -/
theorem words_ext {a b : List Nat} (hl : a.length = b.length) (h : ∀ k, k < a.length → getW a (8 * k) = getW b (8 * k)) : a = b := by
  rw [← firstW_all a, ← firstW_all b, ← hl]
  unfold firstW
  exact List.map_congr_left fun k hk => h k (List.mem_range.1 hk)
theorem stands_apply (ws : List Nat) (l : List (Nat × Nat)) (off : Nat) : stands (txApply ws l) off ↔ stands ws off := by unfold stands; rw [txApply_len]
/-- what stands at an offset behind Apply -/
theorem apply_get {ws : List Nat} {l : List (Nat × Nat)} (h : TxOk ws l) (off : Nat) : getW (txApply ws l) off = txSee ws l off := by
  induction l generalizing ws with
  | nil => rfl
  | cons p r ih =>
    have hs := h.stand p List.mem_cons_self
    have hr : TxOk (put ws p.1 p.2) r := by
      have h1 := h.once
      simp only [txKeys, List.map_cons] at h1
      exact ⟨(List.nodup_cons.1 h1).2, fun q hq => (stands_put' _ _ _ _).2 (h.stand q (List.mem_cons_of_mem _ hq)), fun q hq => h.word q (List.mem_cons_of_mem _ hq)⟩
    have hn : txGet r p.1 = none := by
      have h1 := h.once
      simp only [txKeys, List.map_cons] at h1
      exact txGet_none.2 (List.nodup_cons.1 h1).1
    show getW (txApply (put ws p.1 p.2) r) off = _
    rw [ih hr]
    unfold txSee
    rw [getW_put' p.2 off hs]
    have e0 : txGet (p :: r) off = if p.1 = off then some p.2 else txGet r off := rfl
    rw [e0]
    by_cases e : p.1 = off
    · rw [if_pos e, if_pos e.symm, ← e, hn]; rfl
    · rw [if_neg e, if_neg (fun h => e h.symm)]
theorem TxOk.apply {ws : List Nat} {l l' : List (Nat × Nat)} (h : TxOk ws l) : TxOk (txApply ws l') l :=
  ⟨h.once, fun p hp => (stands_apply _ _ _).2 (h.stand p hp), h.word⟩
/-- Applied again nothing changes. -/
theorem apply_twice {ws : List Nat} {l : List (Nat × Nat)} (h : TxOk ws l) : txApply (txApply ws l) l = txApply ws l := by
  refine words_ext (txApply_len _ _) fun k _ => ?_
  rw [apply_get h.apply, apply_get h]
  unfold txSee
  rw [apply_get h]
  unfold txSee
  cases txGet l (8 * k) <;> rfl
theorem diff_same (a : List Nat) : ∀ m, diffL a a m = []
  | 0 => rfl
  | m + 1 => by
    rw [diffL_no (fun h => by rcases h with h | h <;> exact h rfl)]
    exact diff_same a m
/-- is x among the first k offsets? -/
def inB (l : List (Nat × Nat)) (x k : Nat) : Bool := (List.range k).any fun j => txX l j == x
theorem inB_step (l : List (Nat × Nat)) (x k : Nat) : inB l x (k + 1) = (inB l x k || (txX l k == x)) := by
  simp [inB, List.range_succ]
theorem inB_all (l : List (Nat × Nat)) (x : Nat) : inB l x l.length = (txGet l x).isSome := by
  rcases e : txAt l x with _ | i
  · rw [txAt_none.1 e]
    have h := txAt_nobody e
    simp only [inB, Option.isSome_none, List.any_eq_false, List.mem_range]
    intro j hj
    simpa using h j hj
  · obtain ⟨h1, h2, h3, _⟩ := txAt_some e
    rw [h3]
    simp only [inB, Option.isSome_some, List.any_eq_true, List.mem_range]
    exact ⟨i, h1, by simpa using h2⟩
/-- What is unlike behind Apply was thought of. -/
theorem diff_apply {ws : List Nat} {l : List (Nat × Nat)} (h : TxOk ws l) (m : Nat) : (∀ x ∈ diffL ws (txApply ws l) m, (txGet l x).isSome = true) ∧ (diffL ws (txApply ws l) m).length ≤ l.length := by
  have h1 : ∀ x ∈ diffL ws (txApply ws l) m, (txGet l x).isSome = true := fun x hx => by
    unfold diffL at hx
    obtain ⟨k, hk, rfl⟩ := List.mem_map.1 hx
    have hu := of_decide_eq_true (List.mem_filter.1 hk).2
    rcases e : txGet l (8 * k) with _ | v
    · exfalso
      rcases hu with hu | hu
      · rw [apply_get h] at hu
        unfold txSee at hu
        rw [e] at hu
        exact hu rfl
      · unfold errW at hu
        by_cases hs : stands ws (8 * k)
        · rw [if_pos hs, if_pos ((stands_apply ws l (8 * k)).2 hs)] at hu
          exact hu rfl
        · rw [if_neg hs, if_neg (fun h' => hs ((stands_apply ws l (8 * k)).1 h'))] at hu
          exact hu rfl
    · rfl
  refine ⟨h1, ?_⟩
  have hn : (diffL ws (txApply ws l) m).Nodup := nodup_map (fun a _ b _ e => by omega) (List.nodup_range.filter _)
  have h2 : ((diffL ws (txApply ws l) m).map fun x => (txAt l x).getD 0).Nodup := nodup_map (fun a ha b hb e => by
    rcases ea : txAt l a with _ | i
    · have := h1 a ha; rw [txAt_none.1 ea] at this; cases this
    · rcases eb : txAt l b with _ | j
      · have := h1 b hb; rw [txAt_none.1 eb] at this; cases this
      · rw [ea, eb] at e
        have e' : i = j := e
        subst e'
        rw [← (txAt_some ea).2.1, ← (txAt_some eb).2.1]) hn
  have := nodup_below l.length _ h2 (fun x hx => by
    obtain ⟨y, hy, rfl⟩ := List.mem_map.1 hx
    rcases ey : txAt l y with _ | j
    · have := h1 y hy; rw [txAt_none.1 ey] at this; cases this
    · exact (txAt_some ey).1)
  simpa using this
/-- No offset stands twice. -/
theorem TxOk.apart {ws : List Nat} {l : List (Nat × Nat)} (h : TxOk ws l) {i j : Nat} (hi : i < l.length) (hj : j < i) : txX l j ≠ txX l i := by
  have h1 : (txKeys l)[i]'(by rw [txKeys_len]; exact hi) = txX l i := by simp [txKeys, txX, List.getD_eq_getElem?_getD, List.getElem?_eq_getElem hi]
  have h2 : (txKeys l)[j]'(by rw [txKeys_len]; omega) = txX l j := by simp [txKeys, txX, List.getD_eq_getElem?_getD, List.getElem?_eq_getElem (Nat.lt_trans hj hi)]
  rw [← h1, ← h2]
  intro e
  have := (List.getElem_inj h.once).1 e
  omega
theorem see_apply {ws : List Nat} {l : List (Nat × Nat)} (h : TxOk ws l) (ws' : List Nat) {i : Nat} (hi : i < l.length) : txSee ws' l (txX l i) = txV l i := by
  unfold txSee
  rw [h.getD hi]
  rfl
end Go.Proofs.Ytkpopaadkfgjaaa
