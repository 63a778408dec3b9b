/-
  What stands behind the last statement of layer 3: thought of in two, one behind the other; lists of pairs put together.
  No condition.
-/
import Derived.Test.YtinkfichgknifaaTxMath
import Derived.Test.YtinkfichgknifaaPutO
namespace Go.Proofs.Ytinkfichgknifaa
open Go.RowKit
set_option linter.unusedVariables false
set_option linter.unusedSimpArgs false

/-- k pairs more are thought of, where l0 is already -/
def thinkM (ws : List Nat) (l0 : List (Nat × Nat)) (X V : Nat → Nat) : Nat → List (Nat × Nat)
  | 0 => l0
  | k + 1 => txStore ws (thinkM ws l0 X V k) (X k) (V k)
theorem thinkM_get (ws : List Nat) (l0 : List (Nat × Nat)) (X V : Nat → Nat) (x : Nat) : ∀ k, txGet (thinkM ws l0 X V k) x = (txGet (thinkL ws X V k) x).or (txGet l0 x)
  | 0 => rfl
  | k + 1 => by
    have ih := thinkM_get ws l0 X V x k
    show txGet (txStore ws (thinkM ws l0 X V k) (X k) (V k)) x = (txGet (txStore ws (thinkL ws X V k) (X k) (V k)) x).or (txGet l0 x)
    unfold txStore
    by_cases hs : stands ws (X k)
    · rw [if_pos hs, if_pos hs, txGet_set, txGet_set]
      by_cases e : x = X k
      · rw [if_pos e, if_pos e]; rfl
      · rw [if_neg e, if_neg e, ih]
    · rw [if_neg hs, if_neg hs, ih]
theorem txStore_stands {ws ws' : List Nat} (h : ws.length = ws'.length) (l : List (Nat × Nat)) (off v : Nat) : txStore ws l off v = txStore ws' l off v := by
  have e : stands ws off ↔ stands ws' off := by unfold stands; rw [h]
  unfold txStore
  by_cases hs : stands ws off
  · rw [if_pos hs, if_pos (e.1 hs)]
  · rw [if_neg hs, if_neg (fun h' => hs (e.2 h'))]
theorem thinkL_stands {ws ws' : List Nat} (h : ws.length = ws'.length) (X V : Nat → Nat) : ∀ k, thinkL ws X V k = thinkL ws' X V k
  | 0 => rfl
  | k + 1 => by
    show txStore ws (thinkL ws X V k) _ _ = txStore ws' (thinkL ws' X V k) _ _
    rw [thinkL_stands h X V k, txStore_stands h]
theorem thinkL_congr {ws : List Nat} {X V X' V' : Nat → Nat} : ∀ k, (∀ i, i < k → X i = X' i ∧ V i = V' i) → thinkL ws X V k = thinkL ws X' V' k
  | 0, _ => rfl
  | k + 1, h => by
    show txStore ws (thinkL ws X V k) _ _ = txStore ws (thinkL ws X' V' k) _ _
    rw [thinkL_congr k (fun i hi => h i (by omega)), (h k (by omega)).1, (h k (by omega)).2]
theorem thinkL_more {ws : List Nat} {X V X' V' : Nat → Nat} (n : Nat) : ∀ k, (∀ i, i < k → X (n + i) = X' i ∧ V (n + i) = V' i) → thinkL ws X V (n + k) = thinkM ws (thinkL ws X V n) X' V' k
  | 0, _ => rfl
  | k + 1, h => by
    show txStore ws (thinkL ws X V (n + k)) (X (n + k)) (V (n + k)) = txStore ws (thinkM ws (thinkL ws X V n) X' V' k) (X' k) (V' k)
    rw [thinkL_more n k (fun i hi => h i (by omega)), (h k (by omega)).1, (h k (by omega)).2]
/-- two lists of pairs, one behind the other -/
def pairsL (X V : Nat → Nat) (n : Nat) : List (Nat × Nat) := (List.range n).map fun i => (X i, V i)
theorem pairsL_len (X V : Nat → Nat) (n : Nat) : (pairsL X V n).length = n := by simp [pairsL]
theorem pairsL_cells (X V : Nat → Nat) (n : Nat) : cellsP (pairsL X V n) = cellsXV X V (List.range n) := by
  unfold cellsP pairsL cellsXV
  rw [List.flatMap_map]
theorem both_first (X V X' V' : Nat → Nat) {n n' i : Nat} (h : i < n) : txX (pairsL X V n ++ pairsL X' V' n') i = X i ∧ txV (pairsL X V n ++ pairsL X' V' n') i = V i := by
  unfold txX txV
  rw [List.getD_eq_getElem?_getD, List.getElem?_append_left (by rw [pairsL_len]; exact h)]
  simp [pairsL, h]
theorem both_next (X V X' V' : Nat → Nat) {n n' i : Nat} (h : i < n') : txX (pairsL X V n ++ pairsL X' V' n') (n + i) = X' i ∧ txV (pairsL X V n ++ pairsL X' V' n') (n + i) = V' i := by
  unfold txX txV
  rw [List.getD_eq_getElem?_getD, List.getElem?_append_right (by rw [pairsL_len]; omega), pairsL_len, show n + i - n = i by omega]
  simp [pairsL, h]
/-- Thought of in two, one behind the other, and each applied, it is as thought of in one. -/
theorem joined {ws : List Nat} {X V X' V' : Nat → Nat} (hV : ∀ i, V i < 18446744073709551616) (hV' : ∀ i, V' i < 18446744073709551616) (n n' : Nat) :
    txApply (txApply ws (thinkL ws X V n)) (thinkL (txApply ws (thinkL ws X V n)) X' V' n') = txApply ws (thinkL ws (txX (pairsL X V n ++ pairsL X' V' n')) (txV (pairsL X V n ++ pairsL X' V' n')) (n + n')) := by
  have hok1 := thinkL_ok (ws := ws) (X := X) hV n
  have hok3 := thinkL_ok (ws := txApply ws (thinkL ws X V n)) (X := X') hV' n'
  have hlt : ∀ i, txV (pairsL X V n ++ pairsL X' V' n') i < 18446744073709551616 := fun i => by
    rcases Nat.lt_or_ge i n with h | h
    · rw [(both_first X V X' V' h).2]; exact hV i
    · rcases Nat.lt_or_ge (i - n) n' with h' | h'
      · have := (both_next X V X' V' (n := n) h').2
        rw [show n + (i - n) = i by omega] at this
        rw [this]; exact hV' _
      · unfold txV
        rw [List.getD_eq_getElem?_getD, List.getElem?_eq_none (by rw [List.length_append, pairsL_len, pairsL_len]; omega)]
        decide
  have hok4 := thinkL_ok (ws := ws) (X := txX (pairsL X V n ++ pairsL X' V' n')) hlt (n + n')
  refine words_ext (by rw [txApply_len, txApply_len, txApply_len]) fun k _ => ?_
  rw [apply_get hok3, apply_get hok4, thinkL_more n n' (fun i hi => both_next X V X' V' hi)]
  unfold txSee
  rw [thinkM_get, apply_get hok1, thinkL_stands (txApply_len ws (thinkL ws X V n)) X' V' n', thinkL_congr n (fun i hi => both_first X V X' V' hi)]
  unfold txSee
  cases txGet (thinkL ws X' V' n') (8 * k) <;> rfl

/-! ### append of pairs that came in -/
theorem run_append_nothing {P : Program} {w : World} (base : Nat) (t ty e : TypeId) (i : TypeInfo) (size c : Nat) (ht : P.underlying t = some (.slice e)) (hi : P.info? e = some i)
    (v : Value) (n : Nat) (xs : List Value) (hown : w.ownsRow base e size v n xs) :
    (Builtin.append_ #[t, t] ty #[v, .slice none 0 c]).run P w = .ok v w := by
  rcases hown.2 with ⟨rfl, rfl⟩ | ⟨g, cap, cur, rfl, _, _, hnc, _⟩
  · simp [Builtin.append_, run_underlying ht, sizeOf, typeInfo, hi, Builtin.lenOf, Builtin.firstCells]
  · simp [Builtin.append_, run_underlying ht, sizeOf, typeInfo, hi, Builtin.lenOf, Builtin.firstCells, hnc, storeCells]
theorem wpList_append_puts {w2 : World} {base n m c : Nat} {v : Value} {xs : List Value} {la : Option Addr} {X V : Nat → Nat} (hown : w2.ownsRow base 47 2 v n xs) (hp : PutsAt w2 la m X V) (hm : n + m ≤ 1000000) (hbase : base ≤ w2.heap.size)
    {ops : Array Oper} {rest : List Oper} {o : Oper} {a : Act} {Q : Exit → Act → World → Prop} (hgd : o.guard = none) (s x : Operand)
    (ho : o.op = .call { callee := .builtin .append, args := #[s, x], argTypes := #[22, 22] })
    (hs : a.eval s = v) (hx : a.eval x = .slice la m c)
    (h : ∀ v' w', w'.ownsRow base 47 2 v' (n + m) (xs ++ cellsXV X V (List.range m)) → w2.grownBy w' v.ownBlock → (v' = .slice none 0 0 ↔ v = .slice none 0 0 ∧ m = 0) → wpList Try.prog ops Q rest (a.put o.dst v') w') :
    wpList Try.prog ops Q (o :: rest) a w2 := by
  obtain ⟨i0, hi, hz0, hz1, hz2⟩ := info_parts info_put
  have hlen : (cellsXV X V (List.range m)).length = m * 2 := by rw [← pairsL_cells, cellsP_len, pairsL_len]
  rcases la with _ | ad
  · have hm0 : m = 0 := by
      rcases Nat.eq_zero_or_pos m with h0 | h0
      · exact h0
      · obtain ⟨b, off, hb, _⟩ := hp.cells h0
        cases hb
    subst hm0
    refine wpList_plain hgd fun K hK => ?_
    have hrun := run_append_nothing (P := Try.prog) (w := w2) base 22 o.type 47 i0 2 c Try.underlying22 hi v n xs hown
    unfold Oper.wp
    simp [execOp, ho, resolve, invoke, builtin, hs, hx, hrun, Result.andThen]
    exact hK _ _ (h v w2 (by simpa [cellsXV] using hown) (grown_refl _ _) (by simp))
  · refine wpList_append_own _ hgd s x 22 ho base 47 i0 (.agg #[.int .u64 0, .int .u64 0]) 2 16 Try.underlying22 hi hz0 hz1 hz2 rfl (by decide) v n xs hs hown ad m c (cellsXV X V (List.range m)) hx hlen ?_ ?_ (by unfold maxLen; omega) (by omega) hbase h
    · intro j u hj
      have hjm : j < m * 2 := by
        rcases Nat.lt_or_ge j (m * 2) with h' | h'
        · exact h'
        · rw [List.getElem?_eq_none (by rw [hlen]; exact h')] at hj; cases hj
      obtain ⟨b, off, hb, _, hcs⟩ := hp.cells (by omega)
      injection hb with hb
      subst hb
      have hadd : (⟨b, off, none⟩ : Addr).add j = ⟨b, off + j, none⟩ := by unfold Addr.add; split <;> simp_all
      rw [hadd]
      obtain ⟨c0, c1⟩ := hcs (j / 2) (by omega)
      rw [← pairsL_cells] at hj
      obtain ⟨e0, e1⟩ := cellsP_at (pairsL X V m) (j / 2) (by rw [pairsL_len]; omega)
      have hX : txX (pairsL X V m) (j / 2) = X (j / 2) := by
        have := (both_first X V X V (n := m) (n' := 0) (i := j / 2) (by omega)).1
        simpa [pairsL] using this
      have hV : txV (pairsL X V m) (j / 2) = V (j / 2) := by
        have := (both_first X V X V (n := m) (n' := 0) (i := j / 2) (by omega)).2
        simpa [pairsL] using this
      rcases Nat.mod_two_eq_zero_or_one j with hr | hr
      · rw [show j / 2 * 2 = j by omega] at e0 c0
        rw [e0, hX] at hj
        rw [c0, ← hj]
      · rw [show j / 2 * 2 + 1 = j by omega] at e1
        rw [show off + j / 2 * 2 + 1 = off + j by omega] at c1
        rw [e1, hV] at hj
        rw [c1, ← hj]
    · rw [← pairsL_cells]; exact cellsP_one _
/-- A row of the call's own, as an argument. -/
theorem puts_of_own {w : World} {base g cap : Nat} {l : List (Nat × Nat)} (h : OwnP w base (.slice (some ⟨g, 0, none⟩) l.length cap) l) (hl : ∀ i, txX l i < 18446744073709551616 ∧ txV l i < 18446744073709551616) : PutsAt w (some ⟨g, 0, none⟩) l.length (txX l) (txV l) where
  lt := hl
  cells := fun hn => by
    obtain ⟨_, cur, hb⟩ := row_block h (g := g) rfl
    have hlen := cellsP_len l
    refine ⟨g, 0, rfl, lt_of_block hb, fun i hi => ?_⟩
    obtain ⟨e0, e1⟩ := cellsP_at l i hi
    rw [Nat.zero_add]
    exact ⟨(World.ownsRow.cellAt h (i * 2) (by omega)).trans e0, (World.ownsRow.cellAt h (i * 2 + 1) (by omega)).trans e1⟩
end Go.Proofs.Ytinkfichgknifaa
