/-
  Package seg: the contract of Diff: the offsets of all words that are unlike, rising; nothing that was there has turned.
  Conditions: both segments are nobody's, or stand in memory.
-/
import Derived.Test.YtkpopaadkfgjaaaSegE
namespace Go.Proofs.Ytkpopaadkfgjaaa
open Go.RowKit
set_option linter.unusedVariables false
set_option linter.unusedSimpArgs false

/-- are the words at off unlike? -/
def unlikeP (a b : List Nat) (off : Nat) : Prop := getW a off ≠ getW b off ∨ errW a off ≠ errW b off
instance (a b : List Nat) (off : Nat) : Decidable (unlikeP a b off) := by unfold unlikeP; infer_instance
/-- the offsets of unlike words among the first m -/
def diffL (a b : List Nat) (m : Nat) : List Nat := ((List.range m).filter fun k => decide (unlikeP a b (8 * k))).map (8 * ·)
theorem diffL_zero (a b : List Nat) : diffL a b 0 = [] := rfl
theorem diffL_yes {a b : List Nat} {k : Nat} (h : unlikeP a b (8 * k)) : diffL a b (k + 1) = diffL a b k ++ [8 * k] := by
  unfold diffL
  rw [List.range_succ, List.filter_append, List.map_append]
  simp [h]
theorem diffL_no {a b : List Nat} {k : Nat} (h : ¬ unlikeP a b (8 * k)) : diffL a b (k + 1) = diffL a b k := by
  unfold diffL
  rw [List.range_succ, List.filter_append, List.map_append]
  simp [h]
theorem diffL_len (a b : List Nat) (m : Nat) : (diffL a b m).length ≤ m := by
  unfold diffL
  rw [List.length_map]
  exact Nat.le_trans (List.length_filter_le _ _) (by simp)
/-- numbers, as cells -/
def cellsU (l : List Nat) : List Value := l.map fun x => .int .u64 (x : Nat)
theorem cellsU_len (l : List Nat) : (cellsU l).length = l.length := by simp [cellsU]
theorem SegAt.later {w w' : World} {v : Value} {ws : List Nat} (h : SegAt w v ws) (hg : w.grownBy w' none) : SegAt w' v ws := by
  rcases h with h | ⟨B, D, rfl, h⟩
  · exact .inl h
  · exact .inr ⟨B, D, rfl, h.later hg⟩
theorem SegAt.most {w : World} {v : Value} {ws : List Nat} (h : SegAt w v ws) : ws.length ≤ 131072 := by
  rcases h with ⟨_, rfl⟩ | ⟨B, D, rfl, h⟩
  · simp
  · exact h.most
theorem own_kept {w w' : World} {base : Nat} {e : TypeId} {size : Nat} {v : Value} {n : Nat} {xs : List Value} (h : w.ownsRow base e size v n xs) (hg : w.grownBy w' none) : w'.ownsRow base e size v n xs :=
  h.kept hg (by cases v.ownBlock <;> simp)
/-- What holds at the head of Diff's loop: k words are looked at. -/
structure DiffRel (w : World) (a b : List Nat) (k : Nat) (v : Value) (wr : World) : Prop where
  grown : w.grownBy wr none
  own : wr.ownsRow w.heap.size 30 1 v (diffL a b k).length (cellsU (diffL a b k))
theorem DiffRel.first (w : World) (a b : List Nat) : DiffRel w a b 0 (.slice none 0 0) w := ⟨grown_refl _ _, World.ownsRow_nil _ _ _ _⟩
theorem DiffRel.same {w wr w' : World} {a b : List Nat} {k : Nat} {v : Value} (R : DiffRel w a b k v wr) (hg : wr.grownBy w' none) (h : ¬ unlikeP a b (8 * k)) : DiffRel w a b (k + 1) v w' := by
  refine ⟨grown_trans R.grown hg, ?_⟩
  rw [diffL_no h]
  exact own_kept R.own hg
theorem DiffRel.more {w wr w' w1 : World} {a b : List Nat} {k : Nat} {v v' : Value} (R : DiffRel w a b k v wr) (hg : wr.grownBy w1 none) (O : Obj) (hg2 : (w1.alloc O).grownBy w' v.ownBlock) (h : unlikeP a b (8 * k))
    (hown : w'.ownsRow w.heap.size 30 1 v' ((diffL a b k).length + 1) (cellsU (diffL a b k) ++ [.int .u64 (8 * k : Nat)])) : DiffRel w a b (k + 1) v' w' := by
  refine ⟨?_, ?_⟩
  · have h1 := grown_trans (grown_trans R.grown hg) (World.grownBy_alloc w1 O none)
    refine grown_step h1 hg2 fun i hi => .inl ?_
    exact (R.own.lt i hi).1
  · rw [diffL_yes h]
    simpa [cellsU] using hown
theorem info_u64 : (Try.prog.info? 30).map (fun i => (i.zero, i.size, i.bytes)) = some (some (.int .u64 0), 1, 8) := by kernel_rfl
/-- 'append(out, y)' of one number of 64 bits: its own law at one new cell. -/
theorem wpList_append_u64 {w2 : World} {ops : Array Oper} {rest : List Oper} {o : Oper} {a : Act} {Q : Exit → Act → World → Prop} (hgd : o.guard = none) (s x : Operand)
    (ho : o.op = .call { callee := .builtin .append, args := #[s, x], argTypes := #[23, 23] })
    (base : Nat) (v : Value) (n : Nat) (xs : List Value) (hs : a.eval s = v) (hown : w2.ownsRow base 30 1 v n xs) (y : Int)
    (hx : a.eval x = .slice (some ⟨w2.heap.size, 0, none⟩) 1 1) (hn : n ≤ 1000000000) (hbase : base ≤ w2.heap.size)
    (h : ∀ v' w', w'.ownsRow base 30 1 v' (n + 1) (xs ++ [.int .u64 y]) → (w2.alloc (.cells #[.int .u64 y] 30)).grownBy w' v.ownBlock → wpList Try.prog ops Q rest (a.put o.dst v') w') :
    wpList Try.prog ops Q (o :: rest) a (w2.alloc (.cells #[.int .u64 y] 30)) := by
  obtain ⟨i0, hi, hz0, hz1, hz2⟩ := info_parts info_u64
  refine wpList_append_own _ hgd s x 23 ho base 30 i0 (.int .u64 0) 1 8 Try.underlying23 hi hz0 hz1 hz2 rfl (by decide) v n xs hs (hown.alloc _) ⟨w2.heap.size, 0, none⟩ 1 1 [.int .u64 y] hx rfl ?_ ?_ ?_ ?_ ?_ fun v' w' h1 h2 _ => h v' w' h1 h2
  · intro j u hj
    rcases j with _ | j
    · simp at hj
      subst hj
      exact World.cell?_alloc_at _ _ _ _ rfl
    · simp at hj
  · intro u hu
    simp at hu
    subst hu
    rfl
  · unfold maxLen; omega
  · omega
  · rw [World.size_alloc]; omega
end Go.Proofs.Ytkpopaadkfgjaaa
