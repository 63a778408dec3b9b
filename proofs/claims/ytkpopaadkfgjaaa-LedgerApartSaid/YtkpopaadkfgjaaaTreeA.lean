/-
  Numbers that lie in memory, appended to a row of the call's own.
  Conditions: together they are at most a million; the row is the call's own.
-/
import Derived.Test.YtkpopaadkfgjaaaTreeW
import Derived.Test.YtkpopaadkfgjaaaLSeg
import Derived.Laws.AppendOwnNone
namespace Go.Proofs.Ytkpopaadkfgjaaa
open Go.RowKit
set_option linter.unusedVariables false
set_option linter.unusedSimpArgs false
set_option maxRecDepth 100000

theorem run_append_null {P : Program} {w : World} (base : Nat) (t ty e : TypeId) (i : TypeInfo) (size c : Nat) (ht : P.underlying t = some (.slice e)) (hi : P.info? e = some i)
    (v : Value) (n : Nat) (xs : List Value) (hown : w.ownsRow base e size v n xs) :
    (Builtin.append_ #[t, t] ty #[v, .slice none 0 c]).run P w = .ok v w := by
  rcases hown.2 with ⟨rfl, rfl⟩ | ⟨g, cap, cur, rfl, _, _, hnc, _⟩
  · simp [Builtin.append_, run_underlying ht, sizeOf, typeInfo, hi, Builtin.lenOf, Builtin.firstCells]
  · simp [Builtin.append_, run_underlying ht, sizeOf, typeInfo, hi, Builtin.lenOf, Builtin.firstCells, hnc, storeCells]
set_option maxHeartbeats 1000000 in
theorem wpList_append_words {w2 : World} {base c : Nat} {v : Value} {xs ys : List Nat} {la : Option Addr} (hown : OwnW w2 base v xs) (hp : WordsAt w2 la ys) (hm : xs.length + ys.length ≤ 1000000) (hbase : base ≤ w2.heap.size)
    {ops : Array Oper} {rest : List Oper} {o : Oper} {a : Act} {Q : Exit → Act → World → Prop} (hgd : o.guard = none) (s x : Operand)
    (ho : o.op = .call { callee := .builtin .append, args := #[s, x], argTypes := #[23, 23] })
    (hs : a.eval s = v) (hx : a.eval x = .slice la ys.length c)
    (h : ∀ v' w', OwnW w' base v' (xs ++ ys) → w2.grownBy w' v.ownBlock → wpList Try.prog ops Q rest (a.put o.dst v') w') :
    wpList Try.prog ops Q (o :: rest) a w2 := by
  obtain ⟨i0, hi, hz0, hz1, hz2⟩ := info_parts info_u64
  have hlen : (cellsU ys).length = ys.length * 1 := by simp [cellsU]
  have hfin : ∀ v' w', w'.ownsRow base 30 1 v' (xs.length + ys.length) (cellsU xs ++ cellsU ys) → OwnW w' base v' (xs ++ ys) := fun v' w' h => by
    unfold OwnW
    rw [List.length_append]
    simpa [cellsU] using h
  rcases la with _ | ad
  · have hm0 : ys = [] := by
      rcases Nat.eq_zero_or_pos ys.length with h0 | h0
      · exact List.length_eq_zero_iff.1 h0
      · obtain ⟨b, off, hb, _⟩ := hp.cells h0
        cases hb
    subst hm0
    refine wpList_plain hgd fun K hK => ?_
    have hrun := run_append_null (P := Try.prog) (w := w2) base 23 o.type 30 i0 1 c Try.underlying23 hi v xs.length (cellsU xs) hown
    unfold Oper.wp
    simp only [List.length_nil] at hx
    simp [execOp, ho, resolve, invoke, builtin, hs, hx, hrun, Result.andThen]
    exact hK _ _ (h v w2 (by simpa using hown) (grown_refl _ _))
  · refine wpList_append_own _ hgd s x 23 ho base 30 i0 (.int .u64 0) 1 8 Try.underlying23 hi hz0 hz1 hz2 rfl (by decide) v xs.length (cellsU xs) hs hown ad ys.length c (cellsU ys) hx hlen ?_ ?_ (by unfold maxLen; omega) (by omega) hbase fun v' w' h1 h2 _ => h v' w' (hfin v' w' h1) h2
    · intro j u hj
      have hjm : j < ys.length := by
        rcases Nat.lt_or_ge j ys.length with h' | h'
        · exact h'
        · rw [List.getElem?_eq_none (by rw [hlen]; omega)] at hj; cases hj
      obtain ⟨b, off, hb, _, hcs⟩ := hp.cells (by omega)
      injection hb with hb
      subst hb
      have hadd : (⟨b, off, none⟩ : Addr).add j = ⟨b, off + j, none⟩ := by unfold Addr.add; split <;> simp_all
      rw [hadd, hcs j hjm, ← hj]
      simp [cellsU, List.getElem?_eq_getElem hjm]
    · intro u hu
      simp only [cellsU, List.mem_map] at hu
      obtain ⟨y, _, rfl⟩ := hu
      rfl
end Go.Proofs.Ytkpopaadkfgjaaa
