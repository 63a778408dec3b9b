/-
  The contract of the plain answer Store of layer 3: a value of its own that thinks of the word, or what came in.
  Conditions: the words, and the pairs, are rows of the call's own, or nil; the numbers are of 64 bits.
-/
import Derived.Test.YtojkebnjohanaaaTxR
namespace Go.Proofs.Ytojkebnjohanaaa
open Go.RowKit
set_option linter.unusedVariables false
set_option linter.unusedSimpArgs false

/-- 'append([]api.Put{}, p...)': a row of its own that holds the same pairs. -/
theorem wpList_append_pairs {w : World} {base : Nat} {l : List (Nat × Nat)} {pv : Value} (hw : OwnP w base pv l) (hm : l.length ≤ 1000000)
    {ops : Array Oper} {rest : List Oper} {o : Oper} {a : Act} {Q : Exit → Act → World → Prop} (hgd : o.guard = none) (s x : Operand)
    (ho : o.op = .call { callee := .builtin .append, args := #[s, x], argTypes := #[34, 34] })
    (hs : a.eval s = .slice (some ⟨w.heap.size, 0, none⟩) 0 0) (hx : a.eval x = pv)
    (h : ∀ g cp w', w.grownBy w' none → w.heap.size ≤ g → OwnP w' w.heap.size (.slice (some ⟨g, 0, none⟩) l.length cp) l → wpList Try.prog ops Q rest (a.put o.dst (.slice (some ⟨g, 0, none⟩) l.length cp)) w') :
    wpList Try.prog ops Q (o :: rest) a (w.alloc (.cells #[] 38)) := by
  obtain ⟨i0, hi, hz0, hz1, hz2⟩ := info_parts info_put
  have hown0 : (w.alloc (.cells #[] 38)).ownsRow w.heap.size 38 2 (.slice (some ⟨w.heap.size, 0, none⟩) 0 0) 0 [] := World.ownsRow_lit (base := w.heap.size) (e := 38) (size := 2) w #[] 0 (Nat.le_refl _) (by decide) rfl
  have ha : w.grownBy (w.alloc (.cells #[] 38)) none := World.grownBy_alloc _ _ _
  rcases hw.2 with ⟨rfl, h0⟩ | ⟨g0, c0, cur, rfl, _⟩
  · have hl : l = [] := List.eq_nil_of_length_eq_zero h0
    subst hl
    refine wpList_append_own_none hgd s x 34 ho w.heap.size 38 i0 2 Try.underlying34 hi _ 0 [] hs hown0 hx ?_
    exact h w.heap.size 0 _ ha (Nat.le_refl _) hown0
  · have hsrc : ∀ j u, (cellsP l)[j]? = some u → (w.alloc (.cells #[] 38)).cell? ((⟨g0, 0, none⟩ : Addr).add j) = some u := World.ownsRow.cells (World.ownsRow.alloc hw _) rfl
    refine wpList_append_own _ hgd s x 34 ho w.heap.size 38 i0 (.agg #[.int .u64 0, .int .u64 0]) 2 16 Try.underlying34 hi hz0 hz1 hz2 rfl (by decide) _ 0 [] hs hown0 ⟨g0, 0, none⟩ l.length c0 (cellsP l) hx (cellsP_len l) hsrc (cellsP_one l) (by unfold maxLen; omega) (by omega) (by rw [World.size_alloc]; omega) ?_
    intro v' w1 hown hgrow hnil
    rw [Nat.zero_add, List.nil_append] at hown
    have hg1 : w.grownBy w1 none := grown_new (grown_trans (grown_any ha _) hgrow) (Nat.le_refl _)
    rcases hown.2 with ⟨hv, _⟩ | ⟨g, cp, cur', rfl, hgb, _⟩
    · exact absurd (hnil.1 hv).1 (by simp)
    · exact h g cp w1 hg1 hgb hown
/-- 'append(p, api.Put{..})': a pair more. -/
theorem wpList_append_pair {w2 : World} {base : Nat} {l : List (Nat × Nat)} {v : Value} (hown : OwnP w2 base v l) (hn : l.length ≤ 1000000) (hbase : base ≤ w2.heap.size) (y z : Nat)
    {ops : Array Oper} {rest : List Oper} {o : Oper} {a : Act} {Q : Exit → Act → World → Prop} (hgd : o.guard = none) (s x : Operand)
    (ho : o.op = .call { callee := .builtin .append, args := #[s, x], argTypes := #[34, 34] })
    (hs : a.eval s = v) (hx : a.eval x = .slice (some ⟨w2.heap.size, 0, none⟩) 1 1)
    (h : ∀ g cp w', OwnP w' base (.slice (some ⟨g, 0, none⟩) (l.length + 1) cp) (l ++ [(y, z)]) → w2.grownBy w' v.ownBlock → (v.ownBlock = some g ∨ g = w2.heap.size + 1) → wpList Try.prog ops Q rest (a.put o.dst (.slice (some ⟨g, 0, none⟩) (l.length + 1) cp)) w') :
    wpList Try.prog ops Q (o :: rest) a (w2.alloc (.cells #[.int .u64 y, .int .u64 z] 38)) := by
  obtain ⟨i0, hi, hz0, hz1, hz2⟩ := info_parts info_put
  refine wpList_append_own_at _ hgd s x 34 ho base 38 i0 (.agg #[.int .u64 0, .int .u64 0]) 2 16 Try.underlying34 hi hz0 hz1 hz2 rfl (by decide) v l.length (cellsP l) hs (World.ownsRow.alloc hown _) ⟨w2.heap.size, 0, none⟩ 1 1 [.int .u64 y, .int .u64 z] hx rfl (cells_two_new _ _ _ _) (by simp [Value.oneCell']) (by unfold maxLen; omega) (by omega) (by rw [World.size_alloc]; omega) fun v' w' h1 h2 _ h4 => ?_
  obtain ⟨g, cp, rfl⟩ := ownsRow_succ h1
  refine h g cp w' ?_ (grown_trans (World.grownBy_alloc _ _ _) h2) ?_
  · unfold OwnP
    rw [cellsP_app, List.length_append]
    exact h1
  · rw [World.size_alloc] at h4
    rcases h4 with h4 | h4
    · exact .inl h4.symm
    · right; injection h4
theorem cellsP_set (l : List (Nat × Nat)) (i y z : Nat) : ((cellsP l).set (i * 2) (.int .u64 (y : Nat))).set (i * 2 + 1) (.int .u64 (z : Nat)) = cellsP (l.set i (y, z)) := by
  induction l generalizing i with
  | nil => rfl
  | cons p r ih =>
    have e : ∀ (q : Nat × Nat) (r : List (Nat × Nat)), cellsP (q :: r) = .int .u64 (q.1 : Nat) :: .int .u64 (q.2 : Nat) :: cellsP r := fun _ _ => rfl
    rcases i with _ | i
    · rw [e, List.set_cons_zero]; rfl
    · rw [show (i + 1) * 2 = i * 2 + 1 + 1 by omega, e]
      simp only [List.set_cons_succ]
      rw [ih i]
      rfl
/-- 'p[i] = api.Put{..}' into a row of the call's own. -/
theorem OwnP.stored {w : World} {base g c : Nat} {l : List (Nat × Nat)} (h : OwnP w base (.slice (some ⟨g, 0, none⟩) l.length c) l) (i y z : Nat) :
    OwnP ((w.setCell ⟨g, i * 2, none⟩ (.int .u64 (y : Nat))).setCell ⟨g, i * 2 + 1, none⟩ (.int .u64 (z : Nat))) base (.slice (some ⟨g, 0, none⟩) l.length c) (l.set i (y, z)) ∧
    w.grownBy ((w.setCell ⟨g, i * 2, none⟩ (.int .u64 (y : Nat))).setCell ⟨g, i * 2 + 1, none⟩ (.int .u64 (z : Nat))) (some g) := by
  have h1 := World.ownsRow.stored h (i * 2) (.int .u64 (y : Nat))
  have h2 := World.ownsRow.stored h1.1 (i * 2 + 1) (.int .u64 (z : Nat))
  refine ⟨?_, grown_trans h1.2 h2.2⟩
  unfold OwnP
  rw [List.length_set, ← cellsP_set]
  exact h2.1
theorem txStore_len (ws : List Nat) (l : List (Nat × Nat)) (off v : Nat) : (txStore ws l off v).length ≤ l.length + 1 := by
  unfold txStore
  split
  · rw [txSet_len]; split <;> omega
  · omega
/-- What Store tells: a value of its own. -/
def RStored (w : World) (base : Nat) (wv : Value) (ws : List Nat) (l : List (Nat × Nat)) (e : Ending) (w' : World) : Prop := ∃ pv, e = .returned (.agg #[wv, pv]) ∧ RTx w' base wv pv ws l ∧ w.grownBy w' none
theorem rstored_end {w W0 w2 w3 : World} {base g g' b6 n cp : Nat} {wv : Value} {ws : List Nat} {l : List (Nat × Nat)} (hg0 : w.grownBy W0 none) (hb6 : w.heap.size ≤ b6) (hg : W0.heap.size ≤ g) (hne : b6 < W0.heap.size) (hbase : base ≤ w.heap.size) (hw : OwnW w base wv ws)
    (hg2 : W0.grownBy w2 none) (hg3 : w2.grownBy w3 (some g')) (hg' : W0.heap.size ≤ g') (hp : OwnP w3 W0.heap.size (.slice (some ⟨g, 0, none⟩) n cp) l) (u v : Value) :
    RTx ((w3.setCell ⟨b6, 0, none⟩ u).setCell ⟨b6, 1, none⟩ v) base wv (.slice (some ⟨g, 0, none⟩) n cp) ws l ∧ w.grownBy ((w3.setCell ⟨b6, 0, none⟩ u).setCell ⟨b6, 1, none⟩ v) none := by
  have hs : w3.grownBy ((w3.setCell ⟨b6, 0, none⟩ u).setCell ⟨b6, 1, none⟩ v) (some b6) := grown_trans (grown_set _ _ _ _) (grown_set _ _ _ _)
  have h3 : w.grownBy w3 none := grown_step (grown_trans hg0 hg2) hg3 (fun i hi => .inl (by injection hi with hi; have := hg0.size; omega))
  have h4 : w.grownBy ((w3.setCell ⟨b6, 0, none⟩ u).setCell ⟨b6, 1, none⟩ v) none := grown_step h3 hs (fun i hi => .inl (by injection hi with hi; omega))
  refine ⟨⟨hw.later h4, ?_⟩, h4⟩
  refine World.ownsRow.mono (World.ownsRow.kept hp hs (.inr ?_)) (Nat.le_trans hbase hg0.size)
  intro e
  simp only [Value.ownBlock] at e
  injection e with e
  omega
end Go.Proofs.Ytojkebnjohanaaa
