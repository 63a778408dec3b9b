/-
  The texts of this claim that speak of one layer, one behind the other: each says ahead of it what it holds, and under which conditions.
-/
import Derived.Test.YtoamlkljfmgomaaGreatLSeg
import Derived.Laws.AppendOwnNone
import Derived.Test.YtoamlkljfmgomaaGreatLTree
import Derived.Test.YtoamlkljfmgomaaGreatLTx
import Derived.Test.YtoamlkljfmgomaaGreatLPhys
import Derived.Maps.OwnIn
import Derived.Test.YtoamlkljfmgomaaGreatLTag
import Derived.Maps.AppendAt
import Derived.Test.YtoamlkljfmgomaaGreatLHead
/-
  Numbers of 64 bits that lie in memory one behind the other.
  No condition.
-/
namespace Go.Proofs.YtoamlkljfmgomaaGreat
open Go.RowKit
set_option linter.unusedVariables false
set_option linter.unusedSimpArgs false

/-- These numbers lie in memory, one behind the other, from la on. -/
structure WordsAt (w : World) (la : Option Addr) (l : List Nat) : Prop where
  cells : 0 < l.length → ∃ b off, la = some ⟨b, off, none⟩ ∧ b < w.heap.size ∧ ∀ i, i < l.length → w.cell? ⟨b, off + i, none⟩ = some (.int .u64 (l.getD i 0 : Nat))
section
variable {w w' : World} {la : Option Addr} {l : List Nat} {base : Nat} {v : Value}
theorem WordsAt.later (h : WordsAt w la l) (hg : w.grownBy w' none) : WordsAt w' la l where
  cells := fun hn => by
    obtain ⟨b, off, h1, h2, h3⟩ := h.cells hn
    exact ⟨b, off, h1, Nat.lt_of_lt_of_le h2 hg.size, fun i hi => (World.cell?_of_block (w := w) (a := ⟨b, off + i, none⟩) (hg.block b h2 (by simp))).trans (h3 i hi)⟩
theorem WordsAt.kept {g : Nat} (h : WordsAt w la l) (hg : w.grownBy w' (some g)) (hne : ∀ a, la = some a → a.block ≠ g) : WordsAt w' la l where
  cells := fun hn => by
    obtain ⟨b, off, h1, h2, h3⟩ := h.cells hn
    refine ⟨b, off, h1, Nat.lt_of_lt_of_le h2 hg.size, fun i hi => (World.cell?_of_block (w := w) (a := ⟨b, off + i, none⟩) (hg.block b h2 ?_)).trans (h3 i hi)⟩
    have := hne _ h1
    simpa using this
theorem OwnW.lie (h : OwnW w base v l) : ∃ la c, v = .slice la l.length c ∧ WordsAt w la l := by
  rcases h.2 with ⟨h1, h2⟩ | ⟨g, cap, cur, hv, hb⟩
  · exact ⟨none, 0, by rw [h1, h2], ⟨fun hn => by omega⟩⟩
  · subst hv
    refine ⟨_, _, rfl, ⟨fun _ => ⟨g, 0, rfl, (h.lt g rfl).2, fun i hi => ?_⟩⟩⟩
    rw [Nat.zero_add]
    exact OwnW.at_ h i hi
/-- the first ones of them -/
theorem WordsAt.take (h : WordsAt w la l) (n : Nat) : WordsAt w la (l.take n) where
  cells := fun hn => by
    rw [List.length_take] at hn
    obtain ⟨b, off, h1, h2, h3⟩ := h.cells (by omega)
    refine ⟨b, off, h1, h2, fun i hi => ?_⟩
    rw [List.length_take] at hi
    rw [h3 i (by omega), List.getD_eq_getElem?_getD, List.getD_eq_getElem?_getD, List.getElem?_take, if_pos (by omega)]
/-- the last ones of them -/
theorem WordsAt.drop {b off : Nat} (h : WordsAt w (some ⟨b, off, none⟩) l) (n : Nat) : WordsAt w (some ⟨b, off + n, none⟩) (l.drop n) where
  cells := fun hn => by
    rw [List.length_drop] at hn
    obtain ⟨b', off', h1, h2, h3⟩ := h.cells (by omega)
    injection h1 with h1
    injection h1 with e1 e2
    subst e1 e2
    refine ⟨b, off + n, rfl, h2, fun i hi => ?_⟩
    rw [List.length_drop] at hi
    have := h3 (n + i) (by omega)
    rw [List.getD_eq_getElem?_getD, List.getElem?_drop, ← List.getD_eq_getElem?_getD]
    rw [Nat.add_assoc]; exact this
end
end Go.Proofs.YtoamlkljfmgomaaGreat

/-
  Numbers that lie in memory, appended to a row of the call's own.
  Conditions: together they are at most a million; the row is the call's own.
-/
namespace Go.Proofs.YtoamlkljfmgomaaGreat
open Go.RowKit
set_option linter.unusedVariables false
set_option linter.unusedSimpArgs false
set_option maxRecDepth 100000

theorem run_append_null {P : Program} {w : World} (base : Nat) (t ty e : TypeId) (i : TypeInfo) (size c : Nat) (ht : P.underlying t = some (.slice e)) (hi : P.info? e = some i)
    (v : Value) (n : Nat) (xs : List Value) (hown : w.ownsRow base e size v n xs) :
    (Builtin.append_ #[t, t] ty #[v, .slice none 0 c]).run P w = .ok v w := by
  rcases hown.2 with ⟨rfl, rfl⟩ | ⟨g, cap, cur, rfl, _, _, hnc, _⟩
  · simp [Builtin.append_, run_underlying ht, sizeOf, typeInfo, hi, Builtin.lenOf, Builtin.firstCells]
  · simp [Builtin.append_, run_underlying ht, sizeOf, typeInfo, hi, Builtin.lenOf, Builtin.firstCells, hnc, storeCells]
set_option maxHeartbeats 1000000 in
theorem wpList_append_words {w2 : World} {base c : Nat} {v : Value} {xs ys : List Nat} {la : Option Addr} (hown : OwnW w2 base v xs) (hp : WordsAt w2 la ys) (hm : xs.length + ys.length ≤ 1000000) (hbase : base ≤ w2.heap.size)
    {ops : Array Oper} {rest : List Oper} {o : Oper} {a : Act} {Q : Exit → Act → World → Prop} (hgd : o.guard = none) (s x : Operand)
    (ho : o.op = .call { callee := .builtin .append, args := #[s, x], argTypes := #[27, 27] })
    (hs : a.eval s = v) (hx : a.eval x = .slice la ys.length c)
    (h : ∀ v' w', OwnW w' base v' (xs ++ ys) → w2.grownBy w' v.ownBlock → wpList Tryz.prog ops Q rest (a.put o.dst v') w') :
    wpList Tryz.prog ops Q (o :: rest) a w2 := by
  obtain ⟨i0, hi, hz0, hz1, hz2⟩ := info_parts info_u64
  have hlen : (cellsU ys).length = ys.length * 1 := by simp [cellsU]
  have hfin : ∀ v' w', w'.ownsRow base 23 1 v' (xs.length + ys.length) (cellsU xs ++ cellsU ys) → OwnW w' base v' (xs ++ ys) := fun v' w' h => by
    unfold OwnW
    rw [List.length_append]
    simpa [cellsU] using h
  rcases la with _ | ad
  · have hm0 : ys = [] := by
      rcases Nat.eq_zero_or_pos ys.length with h0 | h0
      · exact List.length_eq_zero_iff.1 h0
      · obtain ⟨b, off, hb, _⟩ := hp.cells h0
        cases hb
    subst hm0
    refine wpList_plain hgd fun K hK => ?_
    have hrun := run_append_null (P := Tryz.prog) (w := w2) base 27 o.type 23 i0 1 c Tryz.underlying27 hi v xs.length (cellsU xs) hown
    unfold Oper.wp
    simp only [List.length_nil] at hx
    simp [execOp, ho, resolve, invoke, builtin, hs, hx, hrun, Result.andThen]
    exact hK _ _ (h v w2 (by simpa using hown) (grown_refl _ _))
  · refine wpList_append_own _ hgd s x 27 ho base 23 i0 (.int .u64 0) 1 8 Tryz.underlying27 hi hz0 hz1 hz2 rfl (by decide) v xs.length (cellsU xs) hs hown ad ys.length c (cellsU ys) hx hlen ?_ ?_ (by unfold maxLen; omega) (by omega) hbase fun v' w' h1 h2 _ => h v' w' (hfin v' w' h1) h2
    · intro j u hj
      have hjm : j < ys.length := by
        rcases Nat.lt_or_ge j ys.length with h' | h'
        · exact h'
        · rw [List.getElem?_eq_none (by rw [hlen]; omega)] at hj; cases hj
      obtain ⟨b, off, hb, _, hcs⟩ := hp.cells (by omega)
      injection hb with hb
      subst hb
      have hadd : (⟨b, off, none⟩ : Addr).add j = ⟨b, off + j, none⟩ := by unfold Addr.add; split <;> simp_all
      rw [hadd, hcs j hjm, ← hj]
      simp [cellsU, List.getElem?_eq_getElem hjm]
    · intro u hu
      simp only [cellsU, List.mem_map] at hu
      obtain ⟨y, _, rfl⟩ := hu
      rfl
end Go.Proofs.YtoamlkljfmgomaaGreat

/-
  Rows of pointers to nodes, nodes that are made, and their keys laid one behind the other.
  No condition.
-/
namespace Go.Proofs.YtoamlkljfmgomaaGreat
open Go.RowKit
set_option linter.unusedVariables false
set_option linter.unusedSimpArgs false
set_option maxRecDepth 100000

theorem info_node : (Tryz.prog.info? 133).map (fun i => (i.zero, i.size, i.bytes)) = some (some (.agg #[.int .u64 0, .int .u64 0, .int .u64 0, .int .u64 0]), 4, 32) := by kernel_rfl
theorem info_nptr : (Tryz.prog.info? 169).map (fun i => (i.zero, i.size, i.bytes)) = some (some (.pointer none), 1, 8) := by kernel_rfl
theorem made_nodes (n : Nat) : madeCells (#[.int .u64 0, .int .u64 0, .int .u64 0, .int .u64 0] : Array Value) (n * 4) = (cellsN (List.replicate n default)).toArray := by
  apply Array.ext
  · simp [size_madeCells, cellsN_len]
  · intro i h1 h2
    rw [size_madeCells] at h1
    have h4 := cellsN_at (List.replicate n default) (i / 4) (i % 4) (by simp; omega) (by omega)
    rw [show i / 4 * 4 + i % 4 = i by omega] at h4
    have h5 : (List.replicate n (default : Nd)).getD (i / 4) default = default := by
      rw [List.getD_eq_getElem?_getD, List.getElem?_replicate]
      split <;> rfl
    rw [h5] at h4
    have h6 : i < (cellsN (List.replicate n default)).length := by simpa using h2
    rw [List.getElem?_eq_getElem h6] at h4
    simp only [List.getElem_toArray, madeCells, Array.getElem_map, Array.getElem_range]
    have hi4 : i % 4 = 0 ∨ i % 4 = 1 ∨ i % 4 = 2 ∨ i % 4 = 3 := by omega
    show (#[.int .u64 0, .int .u64 0, .int .u64 0, .int .u64 0] : Array Value)[i % 4]! = _
    rcases hi4 with e | e | e | e <;> rw [e] at h4 ⊢ <;> exact (Option.some.inj h4).symm
theorem make_nodes (n : Nat) (hn : n ≤ 1000000) (w : World) :
    (Instr.makeSlice 127 (.int .i64 n) (.int .i64 n)).run Tryz.prog w = .ok (.slice (some ⟨w.heap.size, 0, none⟩) n n) (w.alloc (.cells (cellsN (List.replicate n default)).toArray 133)) := by
  obtain ⟨i, hi, hz, hs, hb⟩ := info_parts info_node
  have h := run_make (P := Tryz.prog) w 127 133 i _ Tryz.underlying127 hi hz .i64 .i64 n n (by omega) (Int.le_refl _) (by rw [hb]; omega) (by omega)
  rw [h, hs]
  simp only [Int.toNat_natCast]
  rw [show (Value.agg #[.int .u64 0, .int .u64 0, .int .u64 0, .int .u64 0]).cells = #[.int .u64 0, .int .u64 0, .int .u64 0, .int .u64 0] from rfl, made_nodes]
/-- the nodes with so many keys laid -/
def ndS (z : Nat → Nat) (L : List Nat) : Nat → List Nd
  | 0 => List.replicate L.length default
  | i + 1 => (ndS z L i).set i { (ndS z L i).getD i default with s := z (L.getD i 0), o := L.getD i 0 }
theorem ndS_len (z : Nat → Nat) (L : List Nat) : ∀ i, (ndS z L i).length = L.length
  | 0 => by simp [ndS]
  | i + 1 => by simp [ndS, ndS_len z L i]
theorem ndS_get (z : Nat → Nat) (L : List Nat) : ∀ i j, i ≤ L.length → j < L.length → (ndS z L i).getD j default = if j < i then ⟨z (L.getD j 0), L.getD j 0, 0, 0⟩ else default
  | 0, j, _, hj => by
    rw [if_neg (by omega)]
    unfold ndS
    rw [List.getD_eq_getElem?_getD, List.getElem?_replicate]
    split <;> rfl
  | i + 1, j, hi, hj => by
    unfold ndS
    rw [List.getD_eq_getElem?_getD, List.getElem?_set]
    by_cases e : i = j
    · subst e
      rw [if_pos rfl, if_pos (by rw [ndS_len]; omega), if_pos (by omega), ndS_get z L i i (by omega) hj, if_neg (by omega)]
      rfl
    · rw [if_neg e, ← List.getD_eq_getElem?_getD, ndS_get z L i j (by omega) hj]
      by_cases e2 : j < i
      · rw [if_pos e2, if_pos (by omega)]
      · rw [if_neg e2, if_neg (by omega)]
theorem ndS_all (z : Nat → Nat) (L : List Nat) : ndS z L L.length = L.map fun x => ⟨z x, x, 0, 0⟩ := by
  apply List.ext_getElem
  · simp [ndS_len]
  · intro i h1 h2
    rw [ndS_len] at h1
    have := ndS_get z L L.length i (Nat.le_refl _) h1
    rw [if_pos h1, List.getD_eq_getElem?_getD, List.getElem?_eq_getElem (by rw [ndS_len]; exact h1)] at this
    simp only [Option.getD_some] at this
    rw [this, List.getElem_map]
    rw [List.getD_eq_getElem?_getD, List.getElem?_eq_getElem h1]
    rfl
/-- pointers to a node of its own, and to these nodes of a row -/
def ptrs (ab g : Nat) (es : List Nat) : List Value := .pointer (some ⟨ab, 0, none⟩) :: es.map fun i => .pointer (some ⟨g, i * 4, none⟩)
theorem ptrs_len (ab g : Nat) (es : List Nat) : (ptrs ab g es).length = es.length + 1 := by simp [ptrs]
theorem ptrs_take (ab g : Nat) (es : List Nat) (k : Nat) : (ptrs ab g es).take (k + 1) = ptrs ab g (es.take k) := by simp [ptrs, List.map_take]
theorem ptrs_snoc (ab g : Nat) (es : List Nat) (i : Nat) : ptrs ab g es ++ [.pointer (some ⟨g, i * 4, none⟩)] = ptrs ab g (es ++ [i]) := by simp [ptrs]
/-- the right edge: a row of such pointers -/
def OwnE (w : World) (base : Nat) (v : Value) (ab g : Nat) (es : List Nat) : Prop := w.ownsRow base 169 1 v (es.length + 1) (ptrs ab g es)
section
variable {w w' : World} {base ab g : Nat} {v : Value} {es : List Nat}
theorem OwnE.form (h : OwnE w base v ab g es) : ∃ eb cap cur, v = .slice (some ⟨eb, 0, none⟩) (es.length + 1) cap ∧ base ≤ eb ∧ es.length + 1 ≤ cap ∧ w.heap[eb]? = some (.cells cur 169 (0, 0)) ∧ w.cell? ⟨eb, 0, none⟩ = some (.pointer (some ⟨ab, 0, none⟩)) ∧ ∀ j, j < es.length → w.cell? ⟨eb, j + 1, none⟩ = some (.pointer (some ⟨g, es.getD j 0 * 4, none⟩)) := by
  obtain ⟨h1, h2 | ⟨eb, cap, cur, rfl, hb, hh, hn, hc, hs, ht⟩⟩ := h
  · have := h2.2; omega
  · have hcell : ∀ j, j < es.length + 1 → w.cell? ⟨eb, j, none⟩ = (ptrs ab g es)[j]? := fun j hj => by
      unfold World.cell?
      rw [hh]
      simp only [Option.isSome_none, Bool.false_eq_true, if_false]
      rw [← ht, List.getElem?_take, if_pos (by omega)]
      simp
    refine ⟨eb, cap, cur, rfl, hb, hn, hh, hcell 0 (by omega), fun j hj => ?_⟩
    rw [hcell (j + 1) (by omega)]
    show (es.map fun i => Value.pointer (some ⟨g, i * 4, none⟩))[j]? = _
    rw [List.getElem?_map, List.getD_eq_getElem?_getD, List.getElem?_eq_getElem hj]
    rfl
theorem OwnE.take {a : Option Addr} {m cap : Nat} (h : OwnE w base (.slice a m cap) ab g es) (k : Nat) (hk : k ≤ es.length) : OwnE w base (.slice a (k + 1) cap) ab g (es.take k) := by
  obtain ⟨h1, h2 | ⟨eb, cap', cur, hv, hb, hh, hn, hc, hs, ht⟩⟩ := h
  · have := h2.2; omega
  · injection hv with e1 e2 e3
    subst e1 e3
    have hlen : (es.take k).length = k := by simp; omega
    unfold OwnE
    rw [hlen]
    refine ⟨by rw [ptrs_len, hlen]; omega, .inr ⟨eb, cap, cur, rfl, hb, hh, by omega, hc, hs, ?_⟩⟩
    rw [← ptrs_take, ← ht, List.take_take]
    congr 1
    omega
end
theorem wpList_append_nptr {w2 : World} {ops : Array Oper} {rest : List Oper} {o : Oper} {a : Act} {Q : Exit → Act → World → Prop} (hgd : o.guard = none) (s x : Operand)
    (ho : o.op = .call { callee := .builtin .append, args := #[s, x], argTypes := #[170, 170] })
    (base : Nat) (v : Value) (n : Nat) (xs : List Value) (hs : a.eval s = v) (hown : w2.ownsRow base 169 1 v n xs) (y : Option Addr)
    (hx : a.eval x = .slice (some ⟨w2.heap.size, 0, none⟩) 1 1) (hn : n ≤ 1000000000) (hbase : base ≤ w2.heap.size)
    (h : ∀ v' w', w'.ownsRow base 169 1 v' (n + 1) (xs ++ [.pointer y]) → (w2.alloc (.cells #[.pointer y] 169)).grownBy w' v.ownBlock → (v'.ownBlock = v.ownBlock ∨ v'.ownBlock = some (w2.heap.size + 1)) → wpList Tryz.prog ops Q rest (a.put o.dst v') w') :
    wpList Tryz.prog ops Q (o :: rest) a (w2.alloc (.cells #[.pointer y] 169)) := by
  obtain ⟨i0, hi, hz0, hz1, hz2⟩ := info_parts info_nptr
  refine wpList_append_own_at _ hgd s x 170 ho base 169 i0 (.pointer none) 1 8 Tryz.underlying170 hi hz0 hz1 hz2 rfl (by decide) v n xs hs (hown.alloc _) ⟨w2.heap.size, 0, none⟩ 1 1 [.pointer y] hx rfl ?_ ?_ ?_ ?_ ?_ fun v' w' h1 h2 _ h4 => h v' w' h1 h2 (by rw [World.size_alloc] at h4; exact h4)
  · intro j u hj
    rcases j with _ | j
    · simp at hj
      subst hj
      exact World.cell?_alloc_at _ _ _ _ rfl
    · simp at hj
  · intro u hu
    simp at hu
    subst hu
    rfl
  · unfold maxLen; omega
  · omega
  · rw [World.size_alloc]; omega
end Go.Proofs.YtoamlkljfmgomaaGreat

/-
  Package tree: the contract of shape: the tree of blocks, as a row of nodes by their keys.
  Conditions: the Tx stands in memory; the blocks' offsets lie in memory, and are unlike.
-/
namespace Go.Proofs.YtoamlkljfmgomaaGreat
open Go.RowKit
set_option linter.unusedVariables false
set_option linter.unusedSimpArgs false
set_option maxRecDepth 100000

/-- the nodes' i-th one -/
def ndI (nds : List Nd) (i : Nat) : Nd := nds.getD i default
theorem ndI_set (nds : List Nd) (k j : Nat) (a : Nd) (hk : k < nds.length) : ndI (nds.set k a) j = if k = j then a else ndI nds j := by
  unfold ndI
  rw [List.getD_eq_getElem?_getD, List.getElem?_set]
  by_cases e : k = j
  · rw [if_pos e, if_pos (by omega), if_pos e]; rfl
  · rw [if_neg e, if_neg e, ← List.getD_eq_getElem?_getD]
/-- The words g are the nodes' sons, and the root. -/
structure NSay (g : Nat → Nat) (root : Nat) (nds : List Nd) : Prop where
  root : g 32 = root
  sons : ∀ i, i < nds.length → g ((ndI nds i).o + 8) = (ndI nds i).l ∧ g ((ndI nds i).o + 16) = (ndI nds i).r
/-- What holds of the edge between two rounds. -/
structure ShI (w wr : World) (ab gb n : Nat) (S : List Nat) (v : Value) (nds : List Nd) (es : List Nat) (root k : Nat) : Prop where
  nodes : NodesAt wr gb nds
  len : nds.length = n
  offs : ∀ j, j < n → (ndI nds j).o = S.getD j 0
  above : wr.heap[ab]? = some (.cells #[.int .u64 0, .int .u64 0, .int .u64 0, .int .u64 (root : Nat)] 133 (0, 0))
  edge : OwnE wr (ab + 1) v ab gb es
  ahead : ∀ e, e ∈ es → e < k
  spine : ∃ g b, NSay g root nds ∧ Spine g 32 (es.map fun i => S.getD i 0) b (S.take k) ∧ g b = 0
  rest : ∀ j, k ≤ j → j < n → (ndI nds j).l = 0 ∧ (ndI nds j).r = 0
  grown : w.grownBy wr none
  at_ : w.heap.size ≤ gb ∧ gb < ab
  short : es.length ≤ k
def shE (S es : List Nat) : List Nat := es.map fun i => S.getD i 0
theorem shE_len (S es : List Nat) : (shE S es).length = es.length := by simp [shE]
theorem shE_get (S es : List Nat) (j : Nat) (h : j < es.length) : (shE S es).getD j 0 = S.getD (es.getD j 0) 0 := by
  unfold shE
  rw [List.getD_eq_getElem?_getD, List.getElem?_map, List.getElem?_eq_getElem h, List.getD_eq_getElem?_getD (l := es), List.getElem?_eq_getElem h]
  rfl
theorem shE_take (S es : List Nat) (k : Nat) : shE S (es.take k) = (shE S es).take k := by simp [shE, List.map_take]
theorem shE_snoc (S es : List Nat) (k : Nat) : shE S (es ++ [k]) = shE S es ++ [S.getD k 0] := by simp [shE]
section
variable {w wr wq : World} {ab gb n k t root : Nat} {S es F : List Nat} {v : Value} {nds : List Nd} {g : Nat → Nat}
/-- a node within the row that pops the edge -/
structure ShP (wr wq : World) (gb n : Nat) (S es : List Nat) (nds : List Nd) (k t : Nat) : Prop where
  le : t ≤ es.length
  nodes : NodesAt wq gb (nds.set k { ndI nds k with l := popL (shE S es) t })
  popped : ∀ j, t ≤ j → j < es.length → rkN ((shE S es).getD j 0) < rkN (S.getD k 0)
  grown : wr.grownBy wq (some gb)
theorem ShI.pop0 (h : ShI w wr ab gb n S v nds es root k) (hk : k < n) : ShP wr wr gb n S es nds k es.length where
  le := Nat.le_refl _
  nodes := by
    have e : popL (shE S es) es.length = 0 := by
      unfold popL
      rw [List.getD_eq_getElem?_getD, List.getElem?_eq_none (by rw [shE_len]; exact Nat.le_refl _)]; rfl
    have hr := (h.rest k (Nat.le_refl _) hk).1
    rw [e]
    have : nds.set k { ndI nds k with l := 0 } = nds := by
      have hx : ({ ndI nds k with l := 0 } : Nd) = ndI nds k := by rw [← hr]
      rw [hx]
      apply List.ext_getElem?
      intro j
      rw [List.getElem?_set]
      by_cases e : k = j
      · subst e
        rw [if_pos rfl, if_pos (by rw [h.len]; exact hk)]
        unfold ndI
        rw [List.getD_eq_getElem?_getD, List.getElem?_eq_getElem (by rw [h.len]; exact hk)]
        rfl
      · rw [if_neg e]
    rw [this]
    exact h.nodes
  popped := fun j h1 h2 => by omega
  grown := grown_refl _ _
theorem set_set_same (nds : List Nd) (k : Nat) (a b : Nd) : (nds.set k a).set k b = nds.set k b := by simp
/-- one more is popped -/
theorem ShP.pop (h : ShP wr wq gb n S es nds k t) (hlen : nds.length = n) (hk : k < n) (ht : 0 < t) (hr : rkN ((shE S es).getD (t - 1) 0) < rkN (S.getD k 0)) : ShP wr (wq.setCell ⟨gb, k * 4 + 2, none⟩ (.int .u64 ((shE S es).getD (t - 1) 0 : Nat))) gb n S es nds k (t - 1) where
  le := by have := h.le; omega
  nodes := by
    have h1 := h.nodes.setL (k := k) (by simp; omega) ((shE S es).getD (t - 1) 0)
    rw [set_set_same] at h1
    have e : ({ (nds.set k { ndI nds k with l := popL (shE S es) t }).getD k default with l := (shE S es).getD (t - 1) 0 } : Nd) = { ndI nds k with l := popL (shE S es) (t - 1) } := by
      have := ndI_set nds k k { ndI nds k with l := popL (shE S es) t } (by omega)
      unfold ndI at this ⊢
      rw [this, if_pos rfl]
      rfl
    rw [e] at h1
    exact h1
  popped := fun j h1 h2 => by
    by_cases e : j = t - 1
    · rw [e]; exact hr
    · exact h.popped j (by omega) h2
  grown := grown_trans h.grown (grown_set _ _ _ _)
/-- the link of the edge at which the block comes in: of its own node's right son, or the root -/
def upd2 (g : Nat → Nat) (a u b v : Nat) : Nat → Nat := fun q => if q = b then v else if q = a then u else g q
theorem NSay.step (h : NSay g root nds) (hlen : nds.length = n) (ho : ∀ j, j < n → (ndI nds j).o = S.getD j 0) (hF : FreeL F) (hS : ∀ j, j < n → S.getD j 0 ∈ F) (hnd : ∀ i j, i < n → j < n → S.getD i 0 = S.getD j 0 → i = j) (hk : k < n) (u : Nat) :
    NSay (upd2 g (S.getD k 0 + 8) u 32 (S.getD k 0)) (S.getD k 0) (nds.set k { ndI nds k with l := u }) ∧
    ∀ e, e < n → e ≠ k → NSay (upd2 g (S.getD k 0 + 8) u (S.getD e 0 + 16) (S.getD k 0)) root ((nds.set k { ndI nds k with l := u }).set e { ndI (nds.set k { ndI nds k with l := u }) e with r := S.getD k 0 }) := by
  have h32 : ∀ j, j < n → S.getD j 0 + 8 ≠ 32 ∧ S.getD j 0 + 16 ≠ 32 := fun j hj => by have := hF.on _ (hS j hj); omega
  have far : ∀ i j, i < n → j < n → i ≠ j → S.getD i 0 + 48 ≤ S.getD j 0 ∨ S.getD j 0 + 48 ≤ S.getD i 0 := fun i j hi hj hne => hF.far (hS i hi) (hS j hj) fun e => hne (hnd i j hi hj e)
  constructor
  · refine ⟨by unfold upd2; rw [if_pos rfl], fun i hi => ?_⟩
    have hi' : i < n := by simpa [hlen] using hi
    have hi2 := h32 i hi'
    have hs := h.sons i (by omega)
    rw [ho i hi'] at hs
    rw [ndI_set nds k i _ (by omega)]
    by_cases e : k = i
    · subst e
      rw [if_pos rfl]
      show upd2 _ _ _ _ _ ((ndI nds k).o + 8) = u ∧ upd2 _ _ _ _ _ ((ndI nds k).o + 16) = (ndI nds k).r
      rw [ho k hk]
      unfold upd2
      rw [if_neg hi2.1, if_pos rfl, if_neg hi2.2, if_neg (by omega)]
      exact ⟨rfl, hs.2⟩
    · rw [if_neg e, ho i hi']
      have hf := far i k hi' hk (fun e2 => e e2.symm)
      unfold upd2
      rw [if_neg hi2.1, if_neg (by omega), if_neg hi2.2, if_neg (by omega)]
      exact hs
  · intro e he hek
    refine ⟨?_, fun i hi => ?_⟩
    · unfold upd2
      rw [if_neg (by have := (h32 e he).2; omega), if_neg (by have := (h32 k hk).1; omega)]
      exact h.root
    · have hi' : i < n := by simpa [hlen] using hi
      have hs := h.sons i (by omega)
      rw [ho i hi'] at hs
      rw [ndI_set _ e i _ (by simp; omega)]
      have hfk := far e k he hk hek
      by_cases e1 : e = i
      · subst e1
        rw [if_pos rfl]
        have e3 : ndI (nds.set k { ndI nds k with l := u }) e = ndI nds e := by rw [ndI_set nds k e _ (by omega), if_neg (fun e2 => hek e2.symm)]
        rw [e3]
        show upd2 _ _ _ _ _ ((ndI nds e).o + 8) = (ndI nds e).l ∧ upd2 _ _ _ _ _ ((ndI nds e).o + 16) = S.getD k 0
        rw [ho e he]
        unfold upd2
        rw [if_neg (by omega), if_neg (by omega), if_pos rfl]
        exact ⟨hs.1, rfl⟩
      · rw [if_neg e1, ndI_set nds k i _ (by omega)]
        have hf1 := far e i he hi' e1
        by_cases e2 : k = i
        · subst e2
          rw [if_pos rfl]
          show upd2 _ _ _ _ _ ((ndI nds k).o + 8) = u ∧ upd2 _ _ _ _ _ ((ndI nds k).o + 16) = (ndI nds k).r
          rw [ho k hk]
          unfold upd2
          rw [if_neg (by omega), if_pos rfl, if_neg (by omega), if_neg (by omega)]
          exact ⟨rfl, hs.2⟩
        · rw [if_neg e2, ho i hi']
          have hf2 := far i k hi' hk (fun e => e2 e.symm)
          unfold upd2
          rw [if_neg (by omega), if_neg (by omega), if_neg (by omega), if_neg (by omega)]
          exact hs
/-- blocks by their keys: where they stand, and that they are unlike -/
structure SOk (F S : List Nat) (n : Nat) : Prop where
  free : FreeL F
  len : S.length = n
  sub : ∀ x, x ∈ S → x ∈ F
  nodup : S.Nodup
theorem SOk.mem (h : SOk F S n) {j : Nat} (hj : j < n) : S.getD j 0 ∈ S := by
  rw [List.getD_eq_getElem?_getD, List.getElem?_eq_getElem (by rw [h.len]; exact hj)]
  exact List.getElem_mem _
theorem SOk.inj (h : SOk F S n) {i j : Nat} (hi : i < n) (hj : j < n) (e : S.getD i 0 = S.getD j 0) : i = j := by
  rw [List.getD_eq_getElem?_getD, List.getD_eq_getElem?_getD, List.getElem?_eq_getElem (by rw [h.len]; exact hi), List.getElem?_eq_getElem (by rw [h.len]; exact hj)] at e
  exact (List.getElem_inj h.nodup).1 e
theorem SOk.takeS (h : SOk F S n) {k : Nat} (hk : k < n) : S.take (k + 1) = S.take k ++ [S.getD k 0] := by
  rw [List.take_succ_eq_append_getElem (by rw [h.len]; exact hk), List.getD_eq_getElem?_getD, List.getElem?_eq_getElem (by rw [h.len]; exact hk)]
  rfl
theorem SOk.out (h : SOk F S n) {k : Nat} (hk : k < n) : S.getD k 0 ∉ S.take k := by
  have h1 := h.nodup
  rw [← List.take_append_drop k S, List.nodup_append] at h1
  intro hm
  refine h1.2.2 _ hm (S.getD k 0) ?_ rfl
  rw [List.getD_eq_getElem?_getD, List.getElem?_eq_getElem (by rw [h.len]; exact hk), List.drop_eq_getElem_cons (by rw [h.len]; exact hk)]
  exact List.mem_cons_self
theorem shI_spine {es : List Nat} {root : Nat} {nds : List Nd} {v : Value} (hS : SOk F S n) (h : ShI w wr ab gb n S v nds es root k) (hk : k < n) (ht : t ≤ es.length)
    (hp : ∀ j, t ≤ j → j < es.length → rkN ((shE S es).getD j 0) < rkN (S.getD k 0)) (hs : t = 0 ∨ rkN (S.getD k 0) < rkN ((shE S es).getD (t - 1) 0)) :
    ∃ g, NSay g root nds ∧ ∃ b, Spine (upd2 g (S.getD k 0 + 8) (popL (shE S es) t) (lkE (shE S es) t) (S.getD k 0)) 32 (shE S (es.take t ++ [k])) b (S.take (k + 1)) ∧ upd2 g (S.getD k 0 + 8) (popL (shE S es) t) (lkE (shE S es) t) (S.getD k 0) b = 0 := by
  obtain ⟨g, b, hN, hsp, hb⟩ := h.spine
  have hx := hS.sub _ (hS.mem hk)
  have h16 : g (S.getD k 0 + 16) = 0 := by
    have h1 := (hN.sons k (by rw [h.len]; exact hk)).2
    rw [h.offs k hk] at h1
    rw [h1, (h.rest k (Nat.le_refl _) hk).2]
  have hne : S.getD k 0 + 8 ≠ lkE (shE S es) t := by
    unfold lkE
    split
    · have := hS.free.on _ hx; omega
    · rename_i h0
      have hle : t - 1 < es.length := by omega
      rw [shE_get S es _ hle]
      have he := h.ahead (es.getD (t - 1) 0) (by rw [List.getD_eq_getElem?_getD, List.getElem?_eq_getElem hle]; exact List.getElem_mem _)
      have := hS.free.far hx (hS.sub _ (hS.mem (show es.getD (t - 1) 0 < n by omega))) (fun e => by have := hS.inj hk (by omega) e; omega)
      omega
  have := spine_pop (g' := upd2 g (S.getD k 0 + 8) (popL (shE S es) t) (lkE (shE S es) t) (S.getD k 0)) hS.free hsp hb (fun x hx => hS.sub x (List.mem_of_mem_take hx)) hx (hS.out hk) (hS.nodup.sublist (List.take_sublist _ _)) (by simpa using ht) (fun j h1 h2 => hp j h1 (by simpa using h2)) hs h16
    (fun q q1 q2 => by unfold upd2; rw [if_neg (show ¬ q = lkE (shE S es) t from q2), if_neg q1]) (by unfold upd2; rw [if_neg hne, if_pos rfl]; rfl) (by unfold upd2; exact if_pos rfl)
  refine ⟨g, hN, _, ?_, this.2⟩
  rw [hS.takeS hk, shE_snoc, shE_take]
  exact this.1
theorem ShI.next0 {es : List Nat} {root : Nat} {nds : List Nd} {v v' : Value} {w3 : World} (hS : SOk F S n) (h : ShI w wr ab gb n S v nds es root k) (hk : k < n)
    (hp : ShP wr wq gb n S es nds k 0) (h1 : NodesAt w3 gb (nds.set k { ndI nds k with l := popL (shE S es) 0 })) (h2 : w3.heap[ab]? = some (.cells #[.int .u64 0, .int .u64 0, .int .u64 0, .int .u64 (S.getD k 0 : Nat)] 133 (0, 0))) (h3 : OwnE w3 (ab + 1) v' ab gb (es.take 0 ++ [k])) (h4 : w.grownBy w3 none) :
    ShI w w3 ab gb n S v' (nds.set k { ndI nds k with l := popL (shE S es) 0 }) (es.take 0 ++ [k]) (S.getD k 0) (k + 1) := by
  obtain ⟨g, hN, b, hsp, hb⟩ := shI_spine hS h hk (Nat.zero_le _) hp.popped (.inl rfl)
  have hst := (hN.step h.len h.offs hS.free (fun j hj => hS.sub _ (hS.mem hj)) (fun i j hi hj => hS.inj hi hj) hk (popL (shE S es) 0)).1
  refine ⟨h1, by simp [h.len], fun j hj => ?_, h2, h3, fun e he => ?_, ⟨_, b, hst, hsp, hb⟩, fun j hj1 hj2 => ?_, h4, h.at_, by simp⟩
  · rw [ndI_set nds k j _ (by rw [h.len]; exact hk)]
    split
    · rename_i e; subst e; exact h.offs k hk
    · exact h.offs j hj
  · simp at he; omega
  · rw [ndI_set nds k j _ (by rw [h.len]; exact hk), if_neg (by omega)]
    exact h.rest j (by omega) hj2
theorem ShI.nextS {es : List Nat} {root : Nat} {nds : List Nd} {v v' : Value} {w3 : World} {e : Nat} (hS : SOk F S n) (h : ShI w wr ab gb n S v nds es root k) (hk : k < n) (ht : 0 < t) (he : es.getD (t - 1) 0 = e)
    (hp : ShP wr wq gb n S es nds k t) (hr : rkN (S.getD k 0) < rkN ((shE S es).getD (t - 1) 0))
    (h1 : NodesAt w3 gb ((nds.set k { ndI nds k with l := popL (shE S es) t }).set e { ndI (nds.set k { ndI nds k with l := popL (shE S es) t }) e with r := S.getD k 0 })) (h2 : w3.heap[ab]? = some (.cells #[.int .u64 0, .int .u64 0, .int .u64 0, .int .u64 (root : Nat)] 133 (0, 0))) (h3 : OwnE w3 (ab + 1) v' ab gb (es.take t ++ [k])) (h4 : w.grownBy w3 none) :
    ShI w w3 ab gb n S v' ((nds.set k { ndI nds k with l := popL (shE S es) t }).set e { ndI (nds.set k { ndI nds k with l := popL (shE S es) t }) e with r := S.getD k 0 }) (es.take t ++ [k]) root (k + 1) := by
  obtain ⟨g, hN, b, hsp, hb⟩ := shI_spine hS h hk hp.le hp.popped (.inr hr)
  have hle : t - 1 < es.length := by have := hp.le; omega
  have hem : e ∈ es := by
    rw [← he, List.getD_eq_getElem?_getD, List.getElem?_eq_getElem hle]
    exact List.getElem_mem _
  have hek := h.ahead e hem
  have hst := (hN.step h.len h.offs hS.free (fun j hj => hS.sub _ (hS.mem hj)) (fun i j hi hj => hS.inj hi hj) hk (popL (shE S es) t)).2 e (by omega) (by omega)
  have hlk : lkE (shE S es) t = S.getD e 0 + 16 := by
    unfold lkE
    rw [if_neg (by omega), shE_get S es _ hle, he]
  rw [hlk] at hsp hb
  refine ⟨h1, by simp [h.len], fun j hj => ?_, h2, h3, fun x hx => ?_, ⟨_, b, hst, hsp, hb⟩, fun j hj1 hj2 => ?_, h4, h.at_, by have := hp.le; have := h.short; simp; omega⟩
  · rw [ndI_set _ e j _ (by simp [h.len]; omega)]
    have hbase : (ndI (nds.set k { ndI nds k with l := popL (shE S es) t }) j).o = S.getD j 0 := by
      rw [ndI_set nds k j _ (by rw [h.len]; exact hk)]
      split
      · rename_i e2; subst e2; exact h.offs k hk
      · exact h.offs j hj
    split
    · rename_i e2; subst e2; exact hbase
    · exact hbase
  · rcases List.mem_append.1 hx with hx | hx
    · have := h.ahead x (List.mem_of_mem_take hx); omega
    · have : x = k := by simpa using hx
      omega
  · rw [ndI_set _ e j _ (by simp [h.len]; omega), if_neg (by omega), ndI_set nds k j _ (by rw [h.len]; exact hk), if_neg (by omega)]
    exact h.rest j (by omega) hj2
theorem ShI.first {w3 : World} {nd : List Nd} (h : NodesAt w3 gb nd) (hgb : w.heap.size ≤ gb) (hg : w.grownBy w3 none) (hl : nd.length = n) (ho : ∀ j, j < n → (ndI nd j).o = S.getD j 0) (hz : ∀ j, j < n → (ndI nd j).l = 0 ∧ (ndI nd j).r = 0) :
    ShI w ((w3.alloc (.cells #[.int .u64 0, .int .u64 0, .int .u64 0, .int .u64 0] 133)).alloc (.cells #[.pointer (some ⟨w3.heap.size, 0, none⟩)] 169)) w3.heap.size gb n S (.slice (some ⟨w3.heap.size + 1, 0, none⟩) 1 1) nd [] 0 0 := by
  have g1 := World.grownBy_alloc w3 (.cells #[.int .u64 0, .int .u64 0, .int .u64 0, .int .u64 0] 133) none
  have g2 := World.grownBy_alloc (w3.alloc (.cells #[.int .u64 0, .int .u64 0, .int .u64 0, .int .u64 0] 133)) (.cells #[.pointer (some ⟨w3.heap.size, 0, none⟩)] 169) none
  have ha := heap_alloc_new' w3 (.cells #[.int .u64 0, .int .u64 0, .int .u64 0, .int .u64 0] 133)
  have he := heap_alloc_new' (w3.alloc (.cells #[.int .u64 0, .int .u64 0, .int .u64 0, .int .u64 0] 133)) (.cells #[.pointer (some ⟨w3.heap.size, 0, none⟩)] 169)
  rw [World.size_alloc] at he
  refine ⟨h.later (grown_trans g1 g2) (by simp), hl, ho, (g2.block _ (lt_of_block ha) (by simp)).trans ha, ⟨rfl, .inr ⟨_, 1, _, rfl, by omega, he, by simp, by unfold maxLen; omega, rfl, rfl⟩⟩, by simp, ⟨fun _ => 0, 32, ⟨rfl, fun i hi => ?_⟩, ⟨rfl, by simp⟩, rfl⟩, fun j _ hj => hz j hj, grown_trans hg (grown_trans g1 g2), ⟨hgb, h.lt⟩, Nat.le_refl _⟩
  have := hz i (by omega)
  exact ⟨this.1.symm, this.2.symm⟩
/-- what the edge's cells are while nodes turn -/
theorem ShP.at_ {es : List Nat} {nds : List Nd} {eb : Nat} {cur : Array Value} (h : ShP wr wq gb n S es nds k t) (hgb : eb ≠ gb) (heb : wr.heap[eb]? = some (.cells cur 169 (0, 0))) : wq.heap[eb]? = wr.heap[eb]? :=
  h.grown.block _ (lt_of_block heb) (by simpa using hgb)
theorem ShP.off {es : List Nat} {nds : List Nd} (h : ShP wr wq gb n S es nds k t) (hlen : nds.length = n) (ho : ∀ j, j < n → (ndI nds j).o = S.getD j 0) (hk : k < n) (j : Nat) (hj : j < n) : wq.cell? ⟨gb, j * 4 + 1, none⟩ = some (.int .u64 (S.getD j 0 : Nat)) := by
  have := (h.nodes.cell (k := j) (by simp; omega)).2.1
  have e : ((nds.set k { ndI nds k with l := popL (shE S es) t }).getD j default).o = S.getD j 0 := by
    show (ndI (nds.set k { ndI nds k with l := popL (shE S es) t }) j).o = S.getD j 0
    rw [ndI_set nds k j { ndI nds k with l := popL (shE S es) t } (by omega)]
    split
    · rename_i e; subst e; exact ho k hk
    · exact ho j hj
  rw [e] at this
  exact this
theorem ShP.later {es : List Nat} {nds : List Nd} {w5 : World} (h : ShP wr wq gb n S es nds k t) (hg : wq.grownBy w5 none) : ShP wr w5 gb n S es nds k t :=
  ⟨h.le, h.nodes.later hg (by simp), h.popped, grown_trans h.grown (grown_any hg _)⟩
theorem grown_dN (w : World) (q : Nat) : w.grownBy (w.drewN q) none := ⟨rfl, rfl, rfl, Nat.le_refl _, fun _ _ _ => rfl⟩
theorem four_put {w : World} {b : Nat} {x y z u u' : Value} {t : TypeId} (h : w.heap[b]? = some (.cells #[x, y, z, u] t (0, 0))) : (w.setCell ⟨b, 3, none⟩ u').heap[b]? = some (.cells #[x, y, z, u'] t (0, 0)) := by
  rw [heap_setCell_same h u']; rfl
end
end Go.Proofs.YtoamlkljfmgomaaGreat

/-
  Package tree: the contract of shape, walked.
  Conditions: the Tx stands in memory; the blocks' offsets lie in memory, and are unlike.
-/
namespace Go.Proofs.YtoamlkljfmgomaaGreat
open Go.RowKit
set_option linter.unusedVariables false
set_option linter.unusedSimpArgs false
set_option maxRecDepth 100000

/-- What shape hands back: S: the blocks by their keys. -/
def Shaped (w : World) (S : List Nat) (n : Nat) (e : Ending) (w' : World) : Prop :=
  ∃ gb nds root g, e = .returned (.tuple #[.int .u64 (root : Nat), .slice (some ⟨gb, 0, none⟩) n n]) ∧ NodesAt w' gb nds ∧ nds.length = n ∧ (∀ j, j < n → (ndI nds j).o = S.getD j 0) ∧ NSay g root nds ∧ TreeOf g rkN root S ∧ w.grownBy w' none ∧ w.heap.size ≤ gb
theorem cell_of_block {w w' : World} {a : Addr} {v : Value} (hg : w.grownBy w' none) (h : w.cell? a = some v) : w'.cell? a = some v := hg.cell h (by simp)
theorem sorted_nds {z : Nat → Nat} {L : List Nat} {nds : List Nd} (hL : L.Nodup) (hp : nds.Perm (L.map fun x => ⟨z x, x, 0, 0⟩)) (hs : nds.Pairwise fun x y => ¬ ltK y.s y.o x.s x.o) :
    nds.length = (srtK z L).length ∧ (∀ j, j < (srtK z L).length → (ndI nds j).o = (srtK z L).getD j 0) ∧ ∀ j, j < (srtK z L).length → (ndI nds j).l = 0 ∧ (ndI nds j).r = 0 := by
  have hmem : ∀ x, x ∈ nds → x.s = z x.o ∧ x.l = 0 ∧ x.r = 0 := fun x hx => by
    have := hp.mem_iff.1 hx
    obtain ⟨y, _, rfl⟩ := List.mem_map.1 this
    exact ⟨rfl, rfl, rfl⟩
  have ho : (nds.map fun x => x.o).Perm L := by
    have := hp.map fun x : Nd => x.o
    rw [List.map_map] at this
    have e : ((fun x : Nd => x.o) ∘ fun x => (⟨z x, x, 0, 0⟩ : Nd)) = id := rfl
    rw [e, List.map_id] at this
    exact this
  have hrise : Rising z (nds.map fun x => x.o) := by
    unfold Rising
    rw [List.pairwise_map]
    have hnd : nds.Pairwise fun x y => x.o ≠ y.o := by
      have := ho.nodup_iff.2 hL
      unfold List.Nodup at this
      rwa [List.pairwise_map] at this
    refine (List.Pairwise.and hs hnd).imp_of_mem ?_
    intro x y hx hy ⟨h1, h2⟩
    have e1 := (hmem x hx).1
    have e2 := (hmem y hy).1
    unfold ltK at h1
    unfold blkLt keyLt
    omega
  have hsrt : srtK z L = nds.map fun x => x.o := srtK_ext hrise hL fun x => ho.mem_iff.symm
  have hlen : nds.length = (srtK z L).length := by rw [hsrt]; simp
  refine ⟨hlen, fun j hj => ?_, fun j hj => ?_⟩
  · rw [hsrt]
    unfold ndI
    rw [List.getD_eq_getElem?_getD, List.getD_eq_getElem?_getD, List.getElem?_map, List.getElem?_eq_getElem (by omega)]
    rfl
  · have := hmem (ndI nds j) (by
      unfold ndI
      rw [List.getD_eq_getElem?_getD, List.getElem?_eq_getElem (by omega)]
      exact List.getElem_mem _)
    exact this.2
section
variable {w : World} {T M : Nat} {R : Option Nat} {B D : Nat} {ws : List Nat} {l l' : List (Nat × Nat)} {z : Nat → Nat} {F S L : List Nat} {la : Option Addr} {c : Nat}
set_option maxHeartbeats 4000000 in
theorem tshape_any (h : Thinks w T M R B D ws l) (hB : Bed ws l z F) (hL : ∀ x, x ∈ L → x ∈ F) (hnd : L.Nodup) (hm : WordsAt w la L) (hlen : L.length ≤ 1000000) :
    Calls Tryz.prog 66 #[.agg #[.pointer (some ⟨T, 0, none⟩)], .slice la L.length c] w (Shaped w (srtK z L) L.length) := by
  have hkey := fun (w1 : World) (hg : w.grownBy w1 none) (x : Nat) (hx : x ∈ F) => tkey_any (h.later hg) x (by have := (hB.first hx).2; omega)
  have hS : SOk F (srtK z L) L.length := ⟨hB.free, srtK_length, fun x hx => hL x (srtK_mem.1 hx), (srtK_rising hnd).nodup⟩
  have hsort := fun (nds : List Nd) (hp : nds.Perm (L.map fun x => ⟨z x, x, 0, 0⟩)) (hs : nds.Pairwise fun x y => ¬ ltK y.s y.o x.s x.o) => sorted_nds hnd hp hs
  have hkeys := hB.keys
  have hall := ndS_all z L
  have hLF : ∀ j, j < L.length → L.getD j 0 ∈ F := fun j hj => hL _ (by rw [List.getD_eq_getElem?_getD, List.getElem?_eq_getElem hj]; exact List.getElem_mem _)
  have hmk := make_nodes L.length hlen
  have hmix := fun x w => mix_rk x w
  have hn0 : (ndS z L 0) = List.replicate L.length default := rfl
  have hndlen := ndS_len z L
  obtain ⟨S, hSe⟩ : ∃ S, srtK z L = S := ⟨_, rfl⟩
  rw [hSe] at hS hsort ⊢
  obtain ⟨n, hn⟩ : ∃ n, L.length = n := ⟨_, rfl⟩
  have HN := Lib.hid hn
  simp only [hn] at hS hLF hmk hlen hn0 hndlen hall ⊢
  have hbox : (w.alloc (.cells #[.pointer (some ⟨T, 0, none⟩)] 126)).heap[w.heap.size]? = some (.cells #[.pointer (some ⟨T, 0, none⟩)] 126 (0, 0)) := heap_alloc_new' _ _
  have hN0 : NodesAt ((w.alloc (.cells #[.pointer (some ⟨T, 0, none⟩)] 126)).alloc (.cells (cellsN (List.replicate n default)).toArray 133)) (w.heap.size + 1) (ndS z L 0) := by
    have := heap_alloc_new' (w.alloc (.cells #[.pointer (some ⟨T, 0, none⟩)] 126)) (.cells (cellsN (List.replicate n default)).toArray 133)
    rw [World.size_alloc] at this
    rw [hn0]
    exact this
  have hgA : w.grownBy ((w.alloc (.cells #[.pointer (some ⟨T, 0, none⟩)] 126)).alloc (.cells (cellsN (List.replicate n default)).toArray 133)) none := grown_trans (World.grownBy_alloc _ _ _) (World.grownBy_alloc _ _ _)
  have hbox2 : ((w.alloc (.cells #[.pointer (some ⟨T, 0, none⟩)] 126)).alloc (.cells (cellsN (List.replicate n default)).toArray 133)).heap[w.heap.size]? = some (.cells #[.pointer (some ⟨T, 0, none⟩)] 126 (0, 0)) := (Below.heap_alloc _ _ _ (by simp)).trans hbox
  have hgw : ∀ wr : World, ((w.alloc (.cells #[.pointer (some ⟨T, 0, none⟩)] 126)).alloc (.cells (cellsN (List.replicate n default)).toArray 133)).grownBy wr (some (w.heap.size + 1)) → w.grownBy wr none := fun wr hg => grown_new (grown_trans (grown_any hgA _) hg) (by omega)
  have HGW := Lib.hid hgw
  have HBX := Lib.hid hbox2
  have HN0 := Lib.hid hN0
  have HALL := Lib.hid hall
  have HLF := Lib.hid hLF
  have HNL := Lib.hid hndlen
  have HKEYS := Lib.hid hkeys
  have HS := Lib.hid hS
  have HSORT := Lib.hid hsort
  clear hbox hN0 hgA hbox2 hgw hn0 hall hn hndlen hLF hB hL h hS hsort hkeys
  go_enter Tryz.func66, Tryz.ntmps66
  go_wp2
  go_loopw [19] (fun p wr => ∃ i : Nat, i ≤ n ∧ p = .int .i64 i ∧ NodesAt wr (w.heap.size + 1) (ndS z L i) ∧ ((w.alloc (.cells #[.pointer (some ⟨T, 0, none⟩)] 126)).alloc (.cells (cellsN (List.replicate n default)).toArray 133)).grownBy wr (some (w.heap.size + 1))) (fun p _ => n - (intOf p).toNat)
  case atStart => exact ⟨0, Nat.zero_le _, rfl, HN0.out, grown_refl _ _⟩
  case round =>
    obtain ⟨i, hi, rfl, hNi, hgi⟩ := hrel
    have hgwr := HGW.out _ hgi
    have c0 := cell_of_one ((hgi.block _ (lt_of_block HBX.out) (by simp)).trans HBX.out)
    by_cases hin : i < n
    · obtain ⟨bl, off, rfl, hbl, hcs⟩ := (hm.later hgwr).cells (by rw [HN.out]; omega)
      have c1 := hcs i (by rw [HN.out]; exact hin)
      have hx := HLF.out i hin
      obtain ⟨x, ex⟩ : ∃ x, L.getD i 0 = x := ⟨_, rfl⟩
      rw [ex] at c1 hx
      have hk := hkey wr hgwr x hx
      rw [HKEYS.out x hx] at hk
      obtain ⟨zx, ezx⟩ : ∃ q, z x = q := ⟨_, rfl⟩
      rw [ezx] at hk
      have HX := Lib.hid ex
      have HZ := Lib.hid ezx
      have HNI := Lib.hid hNi
      have hin' : (i : Int) < (n : Int) := by omega
      clear hcs hkey hm ex ezx hNi
      go_wp2_with (first | (go_at_call 98; (with_reducible refine hk.mono ?_); rintro e w2 ⟨rfl, hg2⟩; have f0 := (HNI.out.later hg2 (by simp)).frozen (i * 4); have f1 := (HNI.out.later hg2 (by simp)).frozen (i * 4 + 1); obtain ⟨d0, d1, d2, d3⟩ := (HNI.out.later hg2 (by simp)).cell (by rw [HNL.out]; exact hin)))
      refine ⟨⟨i + 1, by omega, by go_num, ?_, grown_trans (grown_trans hgi (grown_any hg2 _)) (grown_trans (grown_set _ _ _ _) (grown_set _ _ _ _))⟩, by simp [intOf]; omega⟩
      have h5 := (HNI.out.later hg2 (by simp)).setK (k := i) (by rw [HNL.out]; exact hin) zx x
      unfold ndS
      rw [HX.out, HZ.out]
      exact h5
    · obtain rfl : i = n := by omega
      rw [HALL.out] at hNi
      have hso0 := sort_any hNi (by simpa [HN.out] using hlen) i
      have hln : (L.map fun x => (⟨z x, x, 0, 0⟩ : Nd)).length = i := by simp [HN.out]
      rw [hln] at hso0
      clear hm hkey hNi hln
      go_wp2_with (first | (go_at_call 99; (with_reducible refine hso0.mono ?_); rintro e w3 ⟨rfl, nd', hN3, hp3, hs3, hg3⟩))
      obtain ⟨q1, q2, q3⟩ := HSORT.out nd' hp3 hs3
      rw [HS.out.len] at q1 q2 q3
      have hF0 := ShI.first (S := S) (w := w) hN3 (by omega) (HGW.out _ (grown_trans hgi hg3)) q1 q2 q3
      have HF0 := Lib.hid hF0
      clear hso0 hN3 hp3 hs3 hg3 q1 q2 q3 hF0 c0 hgwr hgi
      obtain ⟨ab, hab⟩ : ∃ ab, w3.heap.size = ab := ⟨_, rfl⟩
      simp only [hab] at HF0 ⊢
      obtain ⟨gb, hgb⟩ : ∃ gb, w.heap.size + 1 = gb := ⟨_, rfl⟩
      simp only [hgb] at HF0 ⊢
      have HMX := Lib.hid hmix
      clear hmk hmix
      go_loopw [37, 10] (fun p v wr => ∃ (k : Nat) (nds : List Nd) (es : List Nat) (root : Nat), k ≤ i ∧ p = .int .i64 k ∧ ShI w wr ab gb i S v nds es root k) (fun p _ _ => i - (intOf p).toNat)
      case atStart => exact ⟨0, nd', [], 0, Nat.zero_le _, rfl, HF0.out⟩
      case round =>
        obtain ⟨wo, ewo⟩ : ∃ wo, wo = wr := ⟨_, rfl⟩
        obtain ⟨k, nds, es, root, hk, rfl, hI⟩ := hrel
        subst ewo
        obtain ⟨eb, cap, cur, rfl, heb1, hcap, heb, hc0, hcs⟩ := hI.edge.form
        have HI := Lib.hid hI
        have hlt2 := hI.at_
        have hshort := hI.short
        by_cases hkn : k < i
        · have hkn' : (k : Int) < (i : Int) := by omega
          have elen : IntKind.i64.wrap (((es.length + 1 : Nat) : Int) - 1) = (es.length : Nat) := by rw [IntKind.wrap_i64]; omega
          have HP0 := Lib.hid (hI.pop0 hkn)
          have HC0 := Lib.hid hc0
          have HCS := Lib.hid hcs
          have HEB := Lib.hid heb
          obtain ⟨E, hE⟩ : ∃ E, es.length = E := ⟨_, rfl⟩
          have HE := Lib.hid hE
          simp only [hE] at elen ⊢
          have hE6 : E ≤ 1000000 := by omega
          clear hI hc0 hcs heb hE
          go_wp2
          go_loopw [13] (fun p wq => ∃ t : Nat, p = .int .i64 t ∧ ShP wo wq gb i S es nds k t) (fun p _ => (intOf p).toNat)
          case atStart => exact ⟨E, by go_num, HE.out ▸ HP0.out⟩
          case round =>
            obtain ⟨t, rfl, hP⟩ := hrel
            have hEB := hP.at_ (by omega) HEB.out
            have hcell : ∀ o, wr.cell? ⟨eb, o, none⟩ = wo.cell? ⟨eb, o, none⟩ := fun o => World.cell?_of_block (a := ⟨eb, o, none⟩) hEB
            have cn := hP.off HI.out.len HI.out.offs hkn k hkn
            obtain ⟨x, hx⟩ : ∃ x, S.getD k 0 = x := ⟨_, rfl⟩
            rw [hx] at cn
            have HX := Lib.hid hx
            have HP := Lib.hid hP
            clear hx hEB hP
            rcases t with _ | u
            · have ce : wr.cell? ⟨eb, 0, none⟩ = some (.pointer (some ⟨ab, 0, none⟩)) := (hcell 0).trans HC0.out
              have hab2 := HI.out.above
              clear hcell
              go_wp2
              go_quiet (fail)
              have h5 := grown_dN wr nq
              obtain ⟨w5, e5⟩ : ∃ w5, wr.drewN nq = w5 := ⟨_, rfl⟩
              rw [e5] at h5 ⊢
              have HP5 := Lib.hid (HP.out.later h5)
              have hA5 := ((grown_trans HP.out.grown (grown_any h5 _)).block ab (lt_of_block hab2) (by simp; omega)).trans hab2
              have k0 := cell_of_block h5 ce
              have k1 := cell_of_block h5 cn
              obtain ⟨a0, a1, a2, a3⟩ := four_cells hA5
              have f3 : w5.frozen? ⟨ab, 3, none⟩ = false := by simp [World.frozen?, hA5]
              have HA5 := Lib.hid hA5
              clear hA5 ce cn hab2 h5 e5
              go_wp2
              go_region
              obtain ⟨w6, e6⟩ : ∃ w6, (w5.setCell ⟨ab, 3, none⟩ (.int .u64 (x : Nat))).drew = w6 := ⟨_, rfl⟩
              rw [e6]
              have gs : w5.grownBy w6 (some ab) := by rw [← e6]; exact grown_drew (grown_set _ _ _ _)
              have hA6 : w6.heap[ab]? = some (.cells #[.int .u64 0, .int .u64 0, .int .u64 0, .int .u64 (x : Nat)] 133 (0, 0)) := by
                rw [← e6]; exact four_put HA5.out
              have hN6 := HP5.out.nodes.later gs (by simp; omega)
              have hO6 : OwnE w6 (ab + 1) (.slice (some ⟨eb, 0, none⟩) (0 + 1) cap) ab gb (es.take 0) :=
                OwnE.take (World.ownsRow.kept (World.ownsRow.kept HI.out.edge HP5.out.grown (.inr (by simp [Value.ownBlock]; omega))) gs (.inr (by simp [Value.ownBlock]; omega))) 0 (Nat.zero_le _)
              unfold OwnE at hO6
              rw [show (es.take 0).length = 0 by simp] at hO6
              have hg6 : w.grownBy w6 none := grown_new (grown_trans (grown_any (grown_new (grown_trans (grown_any HI.out.grown _) HP5.out.grown) hlt2.1) _) gs) (by omega)
              have HO6 := Lib.hid hO6
              have HA6 := Lib.hid hA6
              have HN6 := Lib.hid hN6
              have hsz6 := lt_of_block hA6
              have hcap0 : (1 : Int) ≤ (cap : Int) := by omega
              clear hA6 hN6 hO6 a0 a1 a2 a3 k0 k1 f3 e6 gs
              go_wp2_with (first | (at_builtin; go_must (refine wpList_append_nptr rfl _ _ rfl (ab + 1) (.slice (some ⟨eb, 0, none⟩) (0 + 1) cap) (0 + 1) _ rfl HO6.out _ rfl (by omega) (by omega) ?_); intro v' w8 hown8 hg8 hloc))
              have ga := World.grownBy_alloc w6 (.cells #[.pointer (some ⟨gb, k * 4, none⟩)] 169) none
              have g8 : w6.grownBy w8 (some eb) := grown_trans (grown_any ga _) hg8
              have hN8 := HN6.out.later g8 (by simp; omega)
              have hA8 := (g8.block ab (lt_of_block HA6.out) (by simp; omega)).trans HA6.out
              have hg88 : w.grownBy w8 none := grown_new (grown_trans (grown_any hg6 _) g8) (by omega)
              have hO8 : OwnE w8 (ab + 1) v' ab gb (es.take 0 ++ [k]) := by
                unfold OwnE
                rw [← ptrs_snoc]
                simpa using hown8
              have hpop := HP5.out
              refine ⟨⟨k + 1, _, _, _, by omega, by go_num, HI.out.next0 HS.out hkn hpop hN8 (by rw [HX.out]; exact hA8) hO8 hg88⟩, by simp [intOf]; omega⟩
            · have hu : u < es.length := by have := HP.out.le; omega
              have huE : (u : Int) + 1 < (E : Int) + 1 := by have := HE.out; omega
              have huE2 : (u : Int) < (E : Int) := by have := HE.out; omega
              have hu0 : (0 : Int) < (u : Int) + 1 := by omega
              have ce := (hcell (u + 1)).trans (HCS.out u hu)
              obtain ⟨e, he⟩ : ∃ e, es.getD u 0 = e := ⟨_, rfl⟩
              rw [he] at ce
              have hek : e < k := HI.out.ahead e (by rw [← he, List.getD_eq_getElem?_getD, List.getElem?_eq_getElem hu]; exact List.getElem_mem _)
              have co := HP.out.off HI.out.len HI.out.offs hkn e (by omega)
              obtain ⟨y, hy⟩ : ∃ y, S.getD e 0 = y := ⟨_, rfl⟩
              rw [hy] at co
              have HY := Lib.hid (show (shE S es).getD u 0 = y by rw [shE_get S es u hu, he, hy])
              have HEE := Lib.hid he
              clear hcell he hy
              by_cases hr : rkN y < rkN x
              · have hr' : ((rkN y : Nat) : Int) < (rkN x : Nat) := by omega
                go_wp2
                go_quiet (first | (go_at_call 102; exact Calls.quiet_of_same ((HMX.out _ _).mono fun e w' ⟨h1, h2⟩ => ⟨h1, h2.symm⟩)))
                have h5 := grown_dN wr nq
                obtain ⟨w5, e5⟩ : ∃ w5, wr.drewN nq = w5 := ⟨_, rfl⟩
                rw [e5] at h5 ⊢
                have HP5 := Lib.hid (HP.out.later h5)
                have k0 := cell_of_block h5 ce
                have k1 := cell_of_block h5 cn
                have k2 := cell_of_block h5 co
                obtain ⟨_, _, k3, _⟩ := HP5.out.nodes.cell (k := k) (by simp [HI.out.len]; omega)
                have f3 := HP5.out.nodes.frozen (k * 4 + 2)
                clear ce cn co h5 e5
                go_wp2
                refine ⟨⟨u, by go_num, ?_⟩, by simp [intOf]⟩
                have := HP5.out.pop HI.out.len hkn (by omega) (by rw [Nat.add_sub_cancel, HY.out, HX.out]; exact hr)
                rw [Nat.add_sub_cancel, HY.out] at this
                exact this
              · have hr' : ¬ ((rkN y : Nat) : Int) < (rkN x : Nat) := by omega
                go_wp2
                go_quiet (first | (go_at_call 102; exact Calls.quiet_of_same ((HMX.out _ _).mono fun e w' ⟨h1, h2⟩ => ⟨h1, h2.symm⟩)))
                have h5 := grown_dN wr nq
                obtain ⟨w5, e5⟩ : ∃ w5, wr.drewN nq = w5 := ⟨_, rfl⟩
                rw [e5] at h5 ⊢
                have HP5 := Lib.hid (HP.out.later h5)
                have k0 := cell_of_block h5 ce
                have k1 := cell_of_block h5 cn
                have k2 := cell_of_block h5 co
                obtain ⟨_, _, _, k3⟩ := HP5.out.nodes.cell (k := e) (by simp [HI.out.len]; omega)
                have f3 := HP5.out.nodes.frozen (e * 4 + 3)
                clear ce cn co h5 e5
                go_wp2
                go_region
                have hrk : rkN x < rkN y := by
                  rcases Nat.lt_or_ge (rkN x) (rkN y) with h1 | h1
                  · exact h1
                  · have h2 : rkN x = rkN y := by omega
                    have hxF := HS.out.sub _ (HS.out.mem hkn)
                    have hyF := HS.out.sub _ (HS.out.mem (show e < i by omega))
                    have hye : S.getD e 0 = y := by rw [← HY.out, shE_get S es u hu, HEE.out]
                    rw [HX.out] at hxF
                    rw [hye] at hyF
                    have b1 := HS.out.free.on x hxF
                    have b2 := HS.out.free.on y hyF
                    have h3 := rkN_inj (by omega) (by omega) h2
                    have := HS.out.inj hkn (show e < i by omega) (by rw [HX.out, hye, h3])
                    omega
                obtain ⟨w6, e6⟩ : ∃ w6, (w5.setCell ⟨gb, e * 4 + 3, none⟩ (.int .u64 (x : Nat))).drew = w6 := ⟨_, rfl⟩
                rw [e6]
                have gs : w5.grownBy w6 (some gb) := by rw [← e6]; exact grown_drew (grown_set _ _ _ _)
                have hN6 := ((HP5.out.nodes.setR (k := e) (by simp [HI.out.len]; omega) x).later (grown_drew (grown_refl _ none)) (by simp) : NodesAt _ gb _)
                rw [e6] at hN6
                have hab2 := HI.out.above
                have hA6 := ((grown_trans HP5.out.grown gs).block ab (lt_of_block hab2) (by simp; omega)).trans hab2
                have hO6 : OwnE w6 (ab + 1) (.slice (some ⟨eb, 0, none⟩) (u + 1 + 1) cap) ab gb (es.take (u + 1)) :=
                  OwnE.take (World.ownsRow.kept (World.ownsRow.kept HI.out.edge HP5.out.grown (.inr (by simp [Value.ownBlock]; omega))) gs (.inr (by simp [Value.ownBlock]; omega))) (u + 1) (by omega)
                unfold OwnE at hO6
                rw [show (es.take (u + 1)).length = u + 1 by simp; omega] at hO6
                have hg6 : w.grownBy w6 none := grown_new (grown_trans (grown_any (grown_new (grown_trans (grown_any HI.out.grown _) HP5.out.grown) hlt2.1) _) gs) (by omega)
                have HO6 := Lib.hid hO6
                have HA6 := Lib.hid hA6
                have HN6 := Lib.hid hN6
                have hsz6 := lt_of_block hA6
                have hcap0 : (u : Int) + 1 + 1 ≤ (cap : Int) := by have := HE.out; omega
                have ew2 : IntKind.i64.wrap ((u : Int) + 1 + 1) = (u : Int) + 1 + 1 := by rw [IntKind.wrap_i64]; omega
                clear hA6 hN6 hO6 k0 k1 k2 k3 f3 e6 gs hab2
                go_wp2_with (first | (at_builtin; go_must (refine wpList_append_nptr rfl _ _ rfl (ab + 1) (.slice (some ⟨eb, 0, none⟩) ((u + 1) + 1) cap) ((u + 1) + 1) _ rfl HO6.out _ rfl (by omega) (by omega) ?_); intro v' w8 hown8 hg8 hloc))
                have ga := World.grownBy_alloc w6 (.cells #[.pointer (some ⟨gb, k * 4, none⟩)] 169) none
                have g8 : w6.grownBy w8 (some eb) := grown_trans (grown_any ga _) hg8
                have hN8 := HN6.out.later g8 (by simp; omega)
                have hA8 := (g8.block ab (lt_of_block HA6.out) (by simp; omega)).trans HA6.out
                have hg88 : w.grownBy w8 none := grown_new (grown_trans (grown_any hg6 _) g8) (by omega)
                have hO8 : OwnE w8 (ab + 1) v' ab gb (es.take (u + 1) ++ [k]) := by
                  have hlt' : (es.take (u + 1)).length = u + 1 := by simp; omega
                  unfold OwnE
                  rw [← ptrs_snoc, List.length_append, hlt']
                  exact hown8
                refine ⟨⟨k + 1, _, _, _, by omega, by go_num, HI.out.nextS (e := e) (t := u + 1) HS.out hkn (by omega) (by rw [Nat.add_sub_cancel]; exact HEE.out) HP5.out (by rw [Nat.add_sub_cancel, HY.out, HX.out]; exact hrk) (by rw [HX.out]; exact hN8) hA8 hO8 hg88⟩, by simp [intOf]; omega⟩
        · obtain rfl : k = i := by omega
          have hA := HI.out.above
          obtain ⟨a0, a1, a2, a3⟩ := four_cells hA
          clear hc0 hcs hA
          go_wp2
          refine bodyPost_ret (v := .tuple #[.int .u64 (root : Nat), .slice (some ⟨gb, 0, none⟩) k k]) (by simp [results, Tryz.results66, go_sem]) rfl ?_
          obtain ⟨g, b, q1, q2, q3⟩ := HI.out.spine
          refine ⟨gb, nds, root, g, rfl, HI.out.nodes, HI.out.len, HI.out.offs, q1, ?_, HI.out.grown, HI.out.at_.1⟩
          have h9 := q2.close (m := []) (by rw [q3]; exact TreeOf.nil) (by simp)
          rw [List.append_nil, q1.root, List.take_of_length_le (by rw [HS.out.len]; exact Nat.le_refl _)] at h9
          exact h9
end
end Go.Proofs.YtoamlkljfmgomaaGreat

/-
  Package tree: the contracts of sons, and of Check.
  Conditions: the Tx stands in memory; the blocks' offsets lie in memory, and are unlike.
-/
namespace Go.Proofs.YtoamlkljfmgomaaGreat
open Go.RowKit
set_option linter.unusedVariables false
set_option linter.unusedSimpArgs false
set_option maxRecDepth 100000

theorem two_held1 {w w' : World} {x : Value} {t : TypeId} {b : Nat} (h : w.heap[b]? = some (.cells #[x] t (0, 0))) (hg : w.grownBy w' none) : w'.heap[b]? = some (.cells #[x] t (0, 0)) := (hg.block _ (lt_of_block h) (by simp)).trans h
section
variable {w : World} {T M : Nat} {R : Option Nat} {B D : Nat} {ws : List Nat} {l l' : List (Nat × Nat)} {z : Nat → Nat} {F S L : List Nat} {la : Option Addr} {c : Nat}
/-- one word is asked for: it stays so, if it is as it should be -/
theorem check1_any (h : Thinks w T M R B D ws l) (off v : Nat) (ho : off < 18446744073709551616) (kb wb : Nat) (b : Bool) (hk : w.heap[kb]? = some (.cells #[.bool b] 4 (0, 0))) (hw : w.heap[wb]? = some (.cells #[.pointer (some ⟨T, 0, none⟩)] 126 (0, 0))) :
    Calls Tryz.prog 69 #[.int .u64 off, .int .u64 v, .pointer (some ⟨kb, 0, none⟩), .pointer (some ⟨wb, 0, none⟩)] w fun e w' => e = .returned (.tuple #[]) ∧ w'.heap[kb]? = some (.cells #[.bool (b && decide (txSee ws l off = v))] 4 (0, 0)) ∧ w.grownBy w' (some kb) := by
  have hload := txload_any h off ho
  have k0 := cell_of_one hk
  have w0 := cell_of_one hw
  have fk : w.frozen? ⟨kb, 0, none⟩ = false := by simp [World.frozen?, hk]
  have HK := Lib.hid hk
  obtain ⟨x, ex⟩ : ∃ x, txSee ws l off = x := ⟨_, rfl⟩
  rw [ex] at hload ⊢
  clear hk hw h
  cases b with
  | false =>
    go_enter Tryz.func69, Tryz.ntmps69
    go_wp2
    go_end0
    refine ⟨rfl, ?_, grown_set _ _ _ _⟩
    rw [heap_setCell_same HK.out]; rfl
  | true =>
    have hb : ((x : Int) == (v : Int)) = decide (x = v) := by
      by_cases e : x = v
      · rw [decide_eq_true e, e]; simp
      · rw [decide_eq_false e]; simp only [beq_eq_false_iff_ne, ne_eq]; omega
    obtain ⟨d, ed⟩ : ∃ d, decide (x = v) = d := ⟨_, rfl⟩
    rw [ed] at hb ⊢
    clear ed
    go_enter Tryz.func69, Tryz.ntmps69
    go_wp2_with (first | (go_at_call 20; (with_reducible refine hload.mono ?_); rintro e w1 ⟨rfl, hg1⟩; have hk1 := two_held1 HK.out hg1; have k1 := cell_of_one hk1; have f1 : w1.frozen? ⟨kb, 0, none⟩ = false := (by simp [World.frozen?, hk1]); have HK1 := Lib.hid hk1; clear hk1))
    go_end0
    refine ⟨rfl, ?_, grown_trans (grown_any hg1 _) (grown_set _ _ _ _)⟩
    rw [heap_setCell_same HK1.out]; rfl
set_option maxHeartbeats 1000000 in
theorem sons_check (h : Thinks w T M R B D ws l) (x : Nd) (ho : x.o + 16 < 18446744073709551616) (kb wb : Nat) (b : Bool) (hk : w.heap[kb]? = some (.cells #[.bool b] 4 (0, 0))) (hw : w.heap[wb]? = some (.cells #[.pointer (some ⟨T, 0, none⟩)] 126 (0, 0))) :
    Calls Tryz.prog 68 #[.agg #[.int .u64 (x.s : Nat), .int .u64 (x.o : Nat), .int .u64 (x.l : Nat), .int .u64 (x.r : Nat)], .func (.func 69) #[] #[.pointer (some ⟨kb, 0, none⟩), .pointer (some ⟨wb, 0, none⟩)]] w fun e w' => e = .returned (.tuple #[]) ∧ w'.heap[kb]? = some (.cells #[.bool (b && decide (txSee ws l (x.o + 8) = x.l) && decide (txSee ws l (x.o + 16) = x.r))] 4 (0, 0)) ∧ w.grownBy w' (some kb) := by
  obtain ⟨xs, xo, xl, xr⟩ := x
  simp only at ho ⊢
  have hkb := lt_of_block hk
  have hwb := lt_of_block hw
  have hne : kb ≠ wb := ne_type hk hw (by decide)
  have h1 := fun (w1 : World) (hg : w.grownBy w1 none) => check1_any (h.later hg) (xo + 8) xl (by omega) kb wb b (two_held1 hk hg) (two_held1 hw hg)
  have h2 := fun (w1 : World) (w2 : World) (b2 : Bool) (hg : w.grownBy w1 none) (hk2 : w2.heap[kb]? = some (.cells #[.bool b2] 4 (0, 0))) (hg2 : w1.grownBy w2 (some kb)) => check1_any (l := l) (R := R) (D := D) (M := M) (T := T) (w := w2) (ws := ws) (B := B) ((h.later hg).turned (Turned.of_grown hg2) (fun k e => by
    have hk1 := two_held1 hk hg
    have e' : kb = k := by injection e
    subst e'
    exact ⟨(h.later hg).far hk1 (by decide) (by decide), fun e => ne_type hk1 (h.later hg).seg.head (by decide) e, fun e => ne_type hk1 (h.later hg).seg.data (by decide) e⟩)) (xo + 16) xr (by omega) kb wb b2 hk2 ((hg2.block wb (by have := hg.size; omega) (by simpa using hne.symm)).trans (two_held1 hw hg))
  have e8 : IntKind.u64.wrap ((xo : Int) + 8) = (xo + 8 : Nat) := by rw [IntKind.wrap_u64]; omega
  have e16 : IntKind.u64.wrap ((xo : Int) + 16) = (xo + 16 : Nat) := by rw [IntKind.wrap_u64]; omega
  obtain ⟨o8, eo8⟩ : ∃ q, xo + 8 = q := ⟨_, rfl⟩
  obtain ⟨o16, eo16⟩ : ∃ q, xo + 16 = q := ⟨_, rfl⟩
  rw [eo8] at e8 h1
  rw [eo16] at e16 h2
  rw [eo8, eo16]
  have hg0 : w.grownBy (w.alloc (.cells #[.int .u64 xs, .int .u64 xo, .int .u64 xl, .int .u64 xr] 133)) none := World.grownBy_alloc _ _ _
  have hb0 : (w.alloc (.cells #[.int .u64 xs, .int .u64 xo, .int .u64 xl, .int .u64 xr] 133)).heap[w.heap.size]? = some (.cells #[.int .u64 xs, .int .u64 xo, .int .u64 xl, .int .u64 xr] 133 (0, 0)) := heap_alloc_new' _ _
  have HB := Lib.hid hb0
  obtain ⟨b1, hb1⟩ : ∃ b1, (b && decide (txSee ws l o8 = xl)) = b1 := ⟨_, rfl⟩
  rw [hb1] at h1 ⊢
  obtain ⟨d2, hd2⟩ : ∃ d2, decide (txSee ws l o16 = xr) = d2 := ⟨_, rfl⟩
  rw [hd2] at h2 ⊢
  clear hk hw h eo8 eo16 hb1 hd2 hb0
  go_enter Tryz.func68, Tryz.ntmps68
  go_wp2_with (first | (go_at_call 69; (with_reducible refine (h1 _ hg0).mono ?_); rintro e w1 ⟨rfl, hk1, hg1⟩; obtain ⟨q0, q1, q2, q3⟩ := four_cells ((hg1.block _ (lt_of_block HB.out) (by simp; omega)).trans HB.out); have HK1 := Lib.hid hk1; clear hk1) | (go_at_call 69; (with_reducible refine (h2 _ _ b1 hg0 HK1.out hg1).mono ?_); rintro e w2 ⟨rfl, hk2, hg2⟩))
  go_end0
  exact ⟨rfl, hk2, grown_trans (grown_any hg0 _) (grown_trans hg1 hg2)⟩
set_option maxHeartbeats 4000000 in
theorem tcheck_any (h : Thinks w T M R B D ws l) (hB : Bed ws l z F) (hL : ∀ x, x ∈ L → x ∈ F) (hnd : L.Nodup) (hm : WordsAt w la L) (hlen : L.length ≤ 1000000) :
    Calls Tryz.prog 34 #[.pointer (some ⟨T, 0, none⟩), .slice la L.length c] w fun e w' => w.grownBy w' none ∧ ∃ b, e = .returned (.bool b) ∧ (b = true ↔ TreeOf (txSee ws l) rkN (txSee ws l 32) (srtK z L)) := by
  have hg0 : w.grownBy (w.alloc (.cells #[.pointer (some ⟨T, 0, none⟩)] 126)) none := World.grownBy_alloc _ _ _
  have hb0 : (w.alloc (.cells #[.pointer (some ⟨T, 0, none⟩)] 126)).heap[w.heap.size]? = some (.cells #[.pointer (some ⟨T, 0, none⟩)] 126 (0, 0)) := heap_alloc_new' _ _
  have hshape := tshape_any (c := c) (h.later hg0) hB hL hnd (hm.later hg0) hlen
  have hroot := fun (w1 : World) (hg : w.grownBy w1 none) => hroot_any (h.later hg)
  have hSm : ∀ x, x ∈ srtK z L → x ∈ F := fun x hx => hL x (srtK_mem.1 hx)
  have hSl : (srtK z L).length = L.length := srtK_length
  obtain ⟨S, hSe⟩ : ∃ S, srtK z L = S := ⟨_, rfl⟩
  rw [hSe] at hshape hSm hSl ⊢
  obtain ⟨n, hn⟩ : ∃ n, L.length = n := ⟨_, rfl⟩
  rw [hn] at hshape hSl hlen ⊢
  have hS64 : ∀ j, j < n → S.getD j 0 + 16 < 18446744073709551616 := fun j hj => (hB.first (hSm _ (by rw [List.getD_eq_getElem?_getD, List.getElem?_eq_getElem (by omega)]; exact List.getElem_mem _))).2
  have HS64 := Lib.hid hS64
  have HSL := Lib.hid hSl
  have HTH := Lib.hid h
  obtain ⟨r0, hr0⟩ : ∃ r0, txSee ws l 32 = r0 := ⟨_, rfl⟩
  rw [hr0] at hroot ⊢
  have HR0 := Lib.hid hr0
  have HB0 := Lib.hid hb0
  clear hb0 hr0 hS64 hSl h hB hm hSm hnd hn hSe hL
  go_enter Tryz.func34, Tryz.ntmps34
  go_wp2_with (first | (go_at_call 66; (with_reducible refine hshape.mono ?_); rintro e w1 ⟨gb, nds, root, g, rfl, q1, q2, q3, q4, q5, q6, q7⟩) | (go_at_call 67; (with_reducible refine (hroot _ (grown_trans hg0 q6)).mono ?_); rintro e w2 ⟨rfl, hg2⟩; have hgK := World.grownBy_alloc w2 (.cells #[.bool ((r0 : Int) == (root : Int))] 4) none))
  have hkb : w2.heap.size = w2.heap.size := rfl
  have hsz1 := q1.lt
  have hsz2 := hg2.size
  have G2 := grown_trans hg0 (grown_trans q6 hg2)
  have hgw : ∀ wr : World, (w2.alloc (.cells #[.bool ((r0 : Int) == (root : Int))] 4)).grownBy wr (some w2.heap.size) → w.grownBy wr none := fun wr hg => grown_new (grown_trans (grown_any (grown_trans G2 hgK) _) hg) G2.size
  have hW2 := ((grown_trans (grown_trans q6 hg2) hgK).block _ (lt_of_block HB0.out) (by simp)).trans HB0.out
  have hN2 := (q1.later hg2 (by simp)).later hgK (by simp)
  have hb0 := heap_alloc_new' w2 (.cells #[.bool ((r0 : Int) == (root : Int))] 4)
  have hwb := lt_of_block HB0.out
  have hwlt : w.heap.size < w2.heap.size := by have := (grown_trans q6 hg2).size; omega
  have HGW := Lib.hid hgw
  have HW2 := Lib.hid hW2
  have HN2 := Lib.hid hN2
  have HK0 := Lib.hid hb0
  have HO := Lib.hid q3
  have HNS := Lib.hid q4
  have HTR := Lib.hid q5
  have HR := Lib.hid (show ((r0 : Int) == (root : Int)) = true ↔ r0 = root by simp; omega)
  obtain ⟨kb, ekb⟩ : ∃ kb, w2.heap.size = kb := ⟨_, rfl⟩
  rw [ekb] at hsz2 hwlt
  simp only [ekb] at HGW HK0 ⊢
  clear q1 q3 q4 q5 q7 hkb hgw hW2 hN2 hb0 hgK hg2 G2 hwb ekb
  go_loopw [25] (fun p wr => ∃ (i : Nat) (b : Bool), i ≤ n ∧ p = .int .i64 i ∧ wr.heap[kb]? = some (.cells #[.bool b] 4 (0, 0)) ∧ (b = true ↔ (r0 = root ∧ ∀ j, j < i → txSee ws l (S.getD j 0 + 8) = (ndI nds j).l ∧ txSee ws l (S.getD j 0 + 16) = (ndI nds j).r)) ∧ (w2.alloc (.cells #[.bool ((r0 : Int) == (root : Int))] 4)).grownBy wr (some kb)) (fun p _ => n - (intOf p).toNat)
  case atStart => exact ⟨0, _, Nat.zero_le _, rfl, HK0.out, by rw [HR.out]; exact ⟨fun h => ⟨h, fun j hj => by omega⟩, fun h => h.1⟩, grown_refl _ _⟩
  case round =>
    obtain ⟨i, b, hi, rfl, hkr, hiff, hgr⟩ := hrel
    have hgwr := HGW.out _ hgr
    by_cases hin : i < n
    · have hin' : (i : Int) < (n : Int) := by omega
      have hNr := HN2.out.later hgr (by simp; omega)
      have hWr := (hgr.block _ (lt_of_block HW2.out) (by simp; omega)).trans HW2.out
      obtain ⟨c0, c1, c2, c3⟩ := hNr.cell (k := i) (by omega)
      obtain ⟨nd, hnd⟩ : ∃ nd, ndI nds i = nd := ⟨_, rfl⟩
      have hnd2 : nds.getD i default = nd := hnd
      rw [hnd2] at c0 c1 c2 c3
      have hoi := HO.out i hin
      rw [hnd] at hoi
      have hga := World.grownBy_alloc wr (.cells #[.int .u64 (nd.s : Nat), .int .u64 (nd.o : Nat), .int .u64 (nd.l : Nat), .int .u64 (nd.r : Nat)] 133) none
      have hsc := sons_check (HTH.out.later (grown_trans hgwr hga)) nd (by rw [hoi]; exact HS64.out i hin) kb w.heap.size b (two_held1 hkr hga) (two_held1 hWr hga)
      have HIF := Lib.hid hiff
      have HND := Lib.hid hnd
      have HOI := Lib.hid hoi
      have HKR := Lib.hid hkr
      have hna := heap_alloc_new' wr (.cells #[.int .u64 (nd.s : Nat), .int .u64 (nd.o : Nat), .int .u64 (nd.l : Nat), .int .u64 (nd.r : Nat)] 133)
      obtain ⟨m0, m1, m2, m3⟩ := four_cells hna
      clear hiff hnd hnd2 hoi hkr hNr hWr hna
      go_wp2_with (first | (go_at_call 68; (with_reducible refine hsc.mono ?_); rintro e w3 ⟨rfl, hk3, hg3⟩))
      go_roundw
      case rel =>
        refine ⟨i + 1, _, by omega, by go_num, hk3, ?_, grown_trans hgr (grown_trans (grown_any hga _) hg3)⟩
        rw [Bool.and_eq_true, Bool.and_eq_true, HIF.out, decide_eq_true_iff, decide_eq_true_iff, HOI.out]
        constructor
        · rintro ⟨⟨⟨h1, h2⟩, h3⟩, h4⟩
          refine ⟨h1, fun j hj => ?_⟩
          rcases Nat.lt_succ_iff_lt_or_eq.1 hj with h5 | rfl
          · exact h2 j h5
          · rw [HND.out]; exact ⟨h3, h4⟩
        · rintro ⟨h1, h2⟩
          have h3 := h2 i (by omega)
          rw [HND.out] at h3
          exact ⟨⟨⟨h1, fun j hj => h2 j (by omega)⟩, h3.1⟩, h3.2⟩
      case measure => simp [intOf]; omega
    · obtain rfl : i = n := by omega
      have k0 := cell_of_one hkr
      have HIF := Lib.hid hiff
      clear hiff
      go_wp2
      go_ret
      refine ⟨hgwr, b, rfl, ?_⟩
      rw [HIF.out]
      have hat : ∀ x, x ∈ S → ∃ j, j < i ∧ S.getD j 0 = x := fun x hx => by
        obtain ⟨j, hj, e⟩ := List.mem_iff_getElem.1 hx
        exact ⟨j, by have := HSL.out; omega, by rw [List.getD_eq_getElem?_getD, List.getElem?_eq_getElem hj]; exact e⟩
      constructor
      · rintro ⟨h1, h2⟩
        refine HTR.out.carry (fun x hx => ?_) h1
        obtain ⟨j, hj, rfl⟩ := hat x hx
        have h3 := HNS.out.sons j (by omega)
        rw [HO.out j hj] at h3
        have h4 := h2 j hj
        exact ⟨h4.1.trans h3.1.symm, h4.2.trans h3.2.symm⟩
      · intro ht
        obtain ⟨h1, h2⟩ := ht.same HTR.out
        refine ⟨h1, fun j hj => ?_⟩
        have h3 := HNS.out.sons j (by omega)
        rw [HO.out j hj] at h3
        have h4 := h2 (S.getD j 0) (by rw [List.getD_eq_getElem?_getD, List.getElem?_eq_getElem (by have := HSL.out; omega)]; exact List.getElem_mem _)
        exact ⟨h4.1.trans h3.1, h4.2.trans h3.2⟩
end
end Go.Proofs.YtoamlkljfmgomaaGreat

/-
  Package tree: the contract of Build.
  Conditions: the Tx stands in memory; the blocks' offsets lie in memory, and are unlike.
-/
namespace Go.Proofs.YtoamlkljfmgomaaGreat
open Go.RowKit
set_option linter.unusedVariables false
set_option linter.unusedSimpArgs false
set_option maxRecDepth 100000

section
variable {w : World} {T M : Nat} {R : Option Nat} {B D : Nat} {ws : List Nat} {l l' : List (Nat × Nat)} {z : Nat → Nat} {F S L : List Nat} {la : Option Addr} {c : Nat}
set_option maxHeartbeats 1000000 in
theorem sons_store (h : Thinks w T M R B D ws l) (x : Nd) (ho : x.o + 16 < 18446744073709551616) (hl : x.l < 18446744073709551616) (hr : x.r < 18446744073709551616) :
    Calls Tryz.prog 68 #[.agg #[.int .u64 (x.s : Nat), .int .u64 (x.o : Nat), .int .u64 (x.l : Nat), .int .u64 (x.r : Nat)], .func (.func 17) #[.pointer (some ⟨T, 0, none⟩)] #[]] w fun e w' => e = .returned (.tuple #[]) ∧ Thought w T M R B D ws (txStore ws (txStore ws l (x.o + 8) x.l) (x.o + 16) x.r) w' := by
  obtain ⟨xs, xo, xl, xr⟩ := x
  simp only at ho hl hr ⊢
  have h1 := fun (w1 : World) (hg : w.grownBy w1 none) => txstore_any (h.later hg) (xo + 8) xl (by omega) hl
  have h2 := fun (w1 : World) (R1 : Option Nat) (l1 : List (Nat × Nat)) (ht : Thinks w1 T M R1 B D ws l1) => txstore_any ht (xo + 16) xr (by omega) hr
  have e8 : IntKind.u64.wrap ((xo : Int) + 8) = (xo + 8 : Nat) := by rw [IntKind.wrap_u64]; omega
  have e16 : IntKind.u64.wrap ((xo : Int) + 16) = (xo + 16 : Nat) := by rw [IntKind.wrap_u64]; omega
  obtain ⟨o8, eo8⟩ : ∃ q, xo + 8 = q := ⟨_, rfl⟩
  obtain ⟨o16, eo16⟩ : ∃ q, xo + 16 = q := ⟨_, rfl⟩
  rw [eo8] at e8 h1
  rw [eo16] at e16 h2
  rw [eo8, eo16]
  have hg0 : w.grownBy (w.alloc (.cells #[.int .u64 xs, .int .u64 xo, .int .u64 xl, .int .u64 xr] 133)) none := World.grownBy_alloc _ _ _
  have hb0 : (w.alloc (.cells #[.int .u64 xs, .int .u64 xo, .int .u64 xl, .int .u64 xr] 133)).heap[w.heap.size]? = some (.cells #[.int .u64 xs, .int .u64 xo, .int .u64 xl, .int .u64 xr] 133 (0, 0)) := heap_alloc_new' _ _
  have HB := Lib.hid hb0
  have HTW := h.later hg0
  clear eo8 eo16 hb0 h
  go_enter Tryz.func68, Tryz.ntmps68
  go_wp2_with (first | (go_at_call 17; (with_reducible refine (h1 _ hg0).mono ?_); rintro e w1 ⟨rfl, R1, ht1, hq1, hr1⟩; obtain ⟨q0, q1, q2, q3⟩ := four_cells (hq1.heap HB.out (HTW.far HB.out (by decide) (by decide)))) | (go_at_call 17; (with_reducible refine (h2 _ _ _ ht1).mono ?_); rintro e w2 ⟨rfl, ht2⟩))
  go_end0
  exact ⟨rfl, Thought.first hg0 (Thought.trans hq1 hr1 ht2)⟩
theorem root_lt {n root : Nat} {g : Nat → Nat} (hS : SOk F S n) (ht : TreeOf g rkN root S) : root < 18446744073709551616 := by
  by_cases e : root = 0
  · omega
  · have := hS.free.on _ (hS.sub _ (ht.mem e)); omega
/-- the sons of a tree's blocks are blocks, or nobody -/
theorem son_lt {g : Nat → Nat} : ∀ {k : Nat} {l : List Nat} {r : Nat}, TreeN g rkN k r l → (∀ x, x ∈ l → x < 18446744073709551616) → ∀ x, x ∈ l → g (x + 8) < 18446744073709551616 ∧ g (x + 16) < 18446744073709551616
  | 0, l, r, h, _, x, hx => by rw [h.2] at hx; simp at hx
  | k + 1, l, r, h, hl, x, hx => by
    rcases h with h | ⟨h0, A, B, rfl, hA, hB, tA, tB⟩
    · rw [h.2] at hx; simp at hx
    · have root : ∀ {q : Nat} {m : List Nat}, TreeN g rkN k q m → (∀ x, x ∈ m → x < 18446744073709551616) → q < 18446744073709551616 := fun {q m} ht hm => by
        by_cases e : q = 0
        · omega
        · exact hm q (TreeOf.mem ht.of e)
      have lA : ∀ x, x ∈ A → x < 18446744073709551616 := fun x hx => hl x (by simp [hx])
      have lB : ∀ x, x ∈ B → x < 18446744073709551616 := fun x hx => hl x (by simp [hx])
      simp only [List.mem_append, List.mem_cons] at hx
      rcases hx with hx | rfl | hx
      · exact son_lt tA lA x hx
      · exact ⟨root tA lA, root tB lB⟩
      · exact son_lt tB lB x hx
end
end Go.Proofs.YtoamlkljfmgomaaGreat

/-
  A loop over an iterator that has a row of numbers of its own, while the loop's body has one, too: what the iterator owes, and what the loop may lean on.
  No condition.
-/
namespace Go.Proofs.YtoamlkljfmgomaaGreat
open Go.RowKit Go.Shelf
set_option linter.unusedVariables false
set_option linter.unusedSimpArgs false
attribute [local go_sem] Oper.semAt_some

/-- a row of numbers that the variable in block lb doesn't lead to -/
def Aside (lb : Nat) (A : World) (r : Nat) : Prop := (∃ c fr, A.heap[r]? = some (.cells c 23 fr)) ∧ ¬ RowAt lb A r
/-- What stays where such a row turns. -/
def Bears (lb B : Nat) (J : List Nat → World → Prop) : Prop := ∀ s A C row, J s A → A.grownBy C row → (∀ r, row = some r → B ≤ r ∧ Aside lb A r) → J s C
/-- .. and where what is no cells turns, too. -/
def Rests (lb B : Nat) (J : List Nat → World → Prop) : Prop := ∀ s A C row, J s A → A.grownBy C row → (∀ r, row = some r → B ≤ r ∧ ((∃ o : Obj, A.heap[r]? = some o ∧ o.isCells = false) ∨ Aside lb A r)) → J s C
/-- What a body that goes on keeps: what stood below n0; all cells but the variable in block lb, and the row that it leads to. -/
structure TkKeep (n0 lb : Nat) (A C : World) : Prop where
  below : Below n0 A C
  frame : ∀ b, (∃ c t fr, A.heap[b]? = some (.cells c t fr)) → b ≠ lb → ¬ RowAt lb A b → C.heap[b]? = A.heap[b]?
  row : ∀ b, RowAt lb C b → RowAt lb A b ∨ (A.heap.size ≤ b ∧ b < C.heap.size)
theorem TkKeep.trans {n0 lb : Nat} {A C E : World} (h : TkKeep n0 lb A C) (k : TkKeep n0 lb C E) : TkKeep n0 lb A E where
  below := h.below.trans k.below
  frame := fun b hb hn hr => by
    have e := h.frame b hb hn hr
    obtain ⟨c, t, fr, hb⟩ := hb
    refine (k.frame b ⟨c, t, fr, e.trans hb⟩ hn (fun hC => ?_)).trans e
    rcases h.row b hC with h1 | h1
    · exact hr h1
    · have := lt_of_block hb; omega
  row := fun b hb => by
    have h1 := h.below.size
    have h2 := k.below.size
    rcases k.row b hb with h3 | h3
    · rcases h.row b h3 with h4 | h4
      · exact .inl h4
      · exact .inr ⟨h4.1, by omega⟩
    · exact .inr ⟨by omega, h3.2⟩
theorem TkKeep.put {n0 lb : Nat} {w0 : World} (hlb : lb < w0.heap.size) (hn : n0 ≤ w0.heap.size) (W : World) (l : Nat) (o o' : Obj) (hl : w0.heap.size ≤ l) (h : W.heap[l]? = some o) (hc : o.isCells = false) (hw : o.isWalk = false) : TkKeep n0 lb W (W.putObj l o') where
  below := belowK_b (w := w0) hn W l o o' hl h hc hw
  frame := fun b hb _ _ => World.putObj_heap_other (fun e => by
    obtain ⟨c, t, fr, hb⟩ := hb
    subst e; rw [h] at hb; cases hb; cases hc)
  row := fun b hb => .inl (by
    obtain ⟨v, h1, h2⟩ := hb
    refine ⟨v, ?_, h2⟩
    have : (W.putObj l o').heap[lb]? = W.heap[lb]? := World.putObj_heap_other (by omega)
    unfold World.cell? at h1 ⊢
    simp only [this] at h1
    exact h1)
/-- What an iterator owes: it tells what stands at the places below N, one behind the other. -/
def TellsG (n gf : Nat) (cb : Array Value) (enc : Nat → Array Value) (N lb n0 : Nat) (w : World) : Prop :=
  ∀ (yl : Nat) (J Jx : List Nat → World → Prop) (W : World), Below w.heap.size w W → Bears lb W.heap.size J → Bears lb W.heap.size Jx →
    (∀ pre x V, J pre V → pre.length < N → YieldAt Fence.wide (n - 1) Tryz.prog yl (enc x) V fun e V' => (e = .returned (.bool true) ∧ J (pre ++ [x]) V' ∧ TkKeep n0 lb V V') ∨ (e = .returned (.bool false) ∧ Jx (pre ++ [x]) V')) →
    J [] W →
    CallsIn Fence.wide n Tryz.prog gf (#[.func (.yield yl) #[] #[]] ++ cb) W fun e V => (∃ v, e = .returned v) ∧ ((∃ ys, ys = List.range N ∧ J ys V) ∨ (∃ pre, (∃ m, m ≤ N ∧ pre = List.range m) ∧ Jx pre V))
section
variable {n : Nat} {w w0 : World}
theorem Rests.put {lb B : Nat} {J : List Nat → World → Prop} (h : Rests lb B J) {s : List Nat} {W : World} {l : Nat} {o : Obj} (o' : Obj) (hs : J s W) (hB : B ≤ l) (hl : W.heap[l]? = some o) (ho : o.isCells = false) : J s (W.putObj l o') :=
  h s W _ (some l) hs (grownBy_putObj' W l o') fun r e => by cases e; exact ⟨hB, .inl ⟨o, hl, ho⟩⟩
theorem loop_stays {A C : World} {row : Option Nat} {lb B l : Nat} {o : Obj} (hg : A.grownBy C row) (hr : ∀ r, row = some r → B ≤ r ∧ Aside lb A r) (hl : A.heap[l]? = some o) (ho : o.isCells = false) : C.heap[l]? = some o := by
  refine (hg.block l (lt_of_block hl) fun e => ?_).trans hl
  obtain ⟨_, ⟨c, fr, h2⟩, _⟩ := hr l e.symm
  rw [hl] at h2; cases h2; cases ho
/-- The loop, over such an iterator. -/
theorem range_tells {g : Operand} {ps : Array Tmp} {assign body : Code} {Q : Exit → Act → World → Prop} {a : Act} (h1 : 1 ≤ n) {gf : Nat} {cb : Array Value} (hg : a.eval g = .func (.func gf) #[] cb)
    (eg : ∀ args w, (callFunc gf args).run Tryz.prog w = .ok (.enter gf args) w) {enc : Nat → Array Value} {N lb n0 : Nat} (hseq : TellsG (n - 1) gf cb enc N lb n0 w0) (hb0 : Below w0.heap.size w0 w) (hn0 : n0 ≤ w.heap.size) (hlb : lb < w.heap.size) (hps : ∀ x, (enc x).size = ps.size)
    (I : List Nat → World → Prop) (Ix : Code → List Nat → World → Prop) (hI : Rests lb w.heap.size I) (hIx : ∀ c, Rests lb w.heap.size (Ix c)) (h0 : I [] w) (a1 : Nat → Act)
    (hassign : ∀ (l x : Nat) (W : World) (K : Act → World → Prop), K (a1 x) W → assign.wpIn (Fence.wide.inRound l) (n - 1 - 1) Tryz.prog (Exit.then K fun _ _ _ => False) { tmps := (ps.zip (enc x)).foldl (fun t (p, v) => t.setIfInBounds p v) a.tmps, defers := [] } W)
    (hbody : ∀ (l : Nat) (pre : List Nat) (x : Nat) (W : World), I pre W → pre.length < N → body.wpIn (Fence.wide.inRound l) (n - 1 - 1) Tryz.prog (ownPostG w.heap.size (TkKeep n0 lb) I Ix (pre ++ [x]) W) (a1 x) W)
    (hdone : ∀ (D : Nat) (W : World), w.heap.size ≤ D → I (List.range N) W → W.heap[D]? = some (.deferred (some [])) → Q .normal { a with defers := { target := .collected D, args := #[] } :: a.defers } W)
    (hstop : ∀ (D : Nat) (c : Code) (m : Nat) (W : World), w.heap.size ≤ D → m ≤ N → Ix c (List.range m) W → W.heap[D]? = some (.deferred (some [])) → c.wpIn Fence.wide n Tryz.prog Q { a with defers := { target := .collected D, args := #[] } :: a.defers } W) :
    (Code.rangeFunc g ps assign body).wpIn Fence.wide n Tryz.prog Q a w := by
  refine wpIn_rangeFunc fun fn hfn => ?_
  rw [show Fence.wide.round = none from rfl]
  obtain ⟨rec, hrec⟩ : ∃ rec : LoopState → Option Code → Loop, rec = fun st pe => { state := st, pending := pe, fn, tmps := a.tmps, params := ps, assign, body, defers := w.heap.size } := ⟨_, rfl⟩
  have hga := grown_trans (World.grownBy_alloc w (.deferred (some [])) none) (World.grownBy_alloc (w.alloc (.deferred (some []))) (.loop (rec .ready none)) none)
  have hD := (Below.heap_alloc (w.alloc (.deferred (some []))) (.loop (rec .ready none)) _ (by simp)).trans (World.alloc_heap_new w (.deferred (some [])))
  have hL := World.alloc_heap_new (w.alloc (.deferred (some []))) (.loop (rec .ready none))
  rw [World.size_alloc] at hL
  have hen := run_enterLoop_outer (P := Tryz.prog) (w := w) fn a.tmps ps assign body
  obtain ⟨V0, hV0⟩ : ∃ V0, (w.alloc (.deferred (some []))).alloc (.loop (rec .ready none)) = V0 := ⟨_, rfl⟩
  have hen2 : (Instr.enterLoop fn a.tmps ps assign body none).run Tryz.prog w = .ok (w.heap.size + 1, [{ target := .collected w.heap.size, args := #[] }]) V0 := by
    rw [← hV0, hrec]; exact hen
  rw [hV0] at hga hD hL
  refine ⟨w.heap.size + 1, [{ target := .collected w.heap.size, args := #[] }], V0, { target := .fn (.func gf) cb, args := #[.func (.yield (w.heap.size + 1)) #[] #[]] }, V0, gf, #[.func (.yield (w.heap.size + 1)) #[] #[]] ++ cb, V0, hen2, ?_, fun f' hf' => trivial, ?_, fun _ => h1, ?_⟩
  · simp only [resolve, hg]; simp [go_sem]
  · simp [invoke, go_sem, eg]
  have hsz0 : w.heap.size + 2 = V0.heap.size := by rw [← hV0]; simp
  have hround := hseq (w.heap.size + 1)
    (fun pre W => I pre W ∧ W.heap[w.heap.size + 1]? = some (.loop (rec .ready none)) ∧ W.heap[w.heap.size]? = some (.deferred (some [])))
    (fun pre W => ∃ c, Ix c pre W ∧ W.heap[w.heap.size + 1]? = some (.loop (rec .done (some c))) ∧ W.heap[w.heap.size]? = some (.deferred (some [])))
    V0 (hb0.grown hga hb0.size (fun k e => by cases e))
    (fun s A C row hs hg' hr => ⟨hI s A C row hs.1 hg' (fun r e => ⟨by have := (hr r e).1; omega, .inr (hr r e).2⟩), loop_stays hg' hr hs.2.1 rfl, loop_stays hg' hr hs.2.2 rfl⟩)
    (fun s A C row ⟨c, hc, hl, hk⟩ hg' hr => ⟨c, hIx c s A C row hc hg' (fun r e => ⟨by have := (hr r e).1; omega, .inr (hr r e).2⟩), loop_stays hg' hr hl rfl, loop_stays hg' hr hk rfl⟩)
    ?_ ⟨hI [] w V0 none h0 hga (fun r e => by cases e), hL, hD⟩
  · refine hround.mono ?_
    rintro e W2 ⟨⟨v, rfl⟩, (⟨ys, rfl, hi, hl, hk⟩ | ⟨pre, ⟨m, hm, rfl⟩, c, hi, hl, hk⟩)⟩
    · have hend := run_endLoop (P := Tryz.prog) hl (by rw [hrec]; simp)
      rw [hrec] at hend
      exact ⟨none, _, hend, hdone _ _ (Nat.le_refl _) (hI.put _ hi (by omega) hl rfl) ((World.putObj_heap_other (by omega)).trans hk)⟩
    · have hend := run_endLoop (P := Tryz.prog) hl (by rw [hrec]; simp)
      rw [hrec] at hend
      exact ⟨some c, _, hend, hstop _ c m _ (Nat.le_refl _) hm ((hIx c).put _ hi (by omega) hl rfl) ((World.putObj_heap_other (by omega)).trans hk)⟩
  rintro pre x W ⟨hi, hl, hk⟩ hlen
  have hy := run_yield (P := Tryz.prog) (args := enc x) hl (by rw [hrec]; exact hps x)
  rw [hrec] at hy
  refine ⟨fn, _, assign, body, hy, roundIn_of_wpIn hfn (hassign _ x W _ ?_)⟩
  refine ⟨_, run_beginRound hl (by rw [hrec]), ?_⟩
  have hlt := lt_of_block hl
  obtain ⟨busy, hbusy⟩ : ∃ busy : Loop, busy = { rec .ready none with state := .busy } := ⟨_, rfl⟩
  rw [← hbusy]
  have hl2 : (W.putObj (w.heap.size + 1) (.loop busy)).heap[w.heap.size + 1]? = some (.loop busy) := World.putObj_heap_same hlt
  have hk2 : (W.putObj (w.heap.size + 1) (.loop busy)).heap[w.heap.size]? = some (.deferred (some [])) := (World.putObj_heap_other (by omega)).trans hk
  have hkp : TkKeep n0 lb W (W.putObj (w.heap.size + 1) (.loop busy)) := TkKeep.put (w0 := w) hlb hn0 _ _ _ _ (by omega) hl rfl rfl
  have hend : ∀ (jump : Option Code) (W3 : World), KeepsFrom w.heap.size (W.putObj (w.heap.size + 1) (.loop busy)) W3 → ∃ r : Loop, r = rec (if jump.isNone then .ready else .done) jump ∧ (Instr.endRound (w.heap.size + 1) jump).run Tryz.prog W3 = .ok (.bool jump.isNone) (W3.putObj (w.heap.size + 1) (.loop r)) ∧ W3.heap[w.heap.size + 1]? = some (.loop busy) ∧ (W3.putObj (w.heap.size + 1) (.loop r)).heap[w.heap.size + 1]? = some (.loop r) ∧ (W3.putObj (w.heap.size + 1) (.loop r)).heap[w.heap.size]? = some (.deferred (some [])) := fun jump W3 hk3 => by
    have hl3 := hk3.same _ _ (by omega) hl2 rfl
    have hr := run_endRound (P := Tryz.prog) jump hl3
    rw [hbusy, hrec] at hr
    refine ⟨_, rfl, ?_, hl3, World.putObj_heap_same (lt_of_block hl3), (World.putObj_heap_other (by omega)).trans (hk3.same _ _ (Nat.le_refl _) hk2 rfl)⟩
    rw [hrec]
    exact hr
  refine wpIn_mono (hbody _ pre x _ (hI.put _ hi (by omega) hl rfl) hlen) ?_
  rintro e a3 W3 hp
  cases e with
  | normal =>
    obtain ⟨hk3, hkp3, hi3⟩ := hp
    obtain ⟨r, hre, hr, hl3, hl4, hk4⟩ := hend none W3 hk3
    refine ⟨_, _, hr, .inl ⟨rfl, ⟨hI.put _ hi3 (by omega) hl3 rfl, hl4.trans (by rw [hre]; rfl), hk4⟩, hkp.trans (hkp3.trans (TkKeep.put (w0 := w) hlb hn0 _ _ _ _ (by omega) hl3 rfl rfl))⟩⟩
  | ret =>
    obtain ⟨hk3, hi3⟩ := hp
    obtain ⟨r, hre, hr, hl3, hl4, hk4⟩ := hend (some .ret) W3 hk3
    exact ⟨_, _, hr, .inr ⟨rfl, .ret, (hIx _).put _ hi3 (by omega) hl3 rfl, hl4.trans (by rw [hre]; rfl), hk4⟩⟩
  | exit id =>
    obtain ⟨hk3, hi3⟩ := hp
    obtain ⟨r, hre, hr, hl3, hl4, hk4⟩ := hend (some (.exit id)) W3 hk3
    exact ⟨_, _, hr, .inr ⟨rfl, .exit id, (hIx _).put _ hi3 (by omega) hl3 rfl, hl4.trans (by rw [hre]; rfl), hk4⟩⟩
  | goto t =>
    obtain ⟨hk3, hi3⟩ := hp
    obtain ⟨r, hre, hr, hl3, hl4, hk4⟩ := hend (some (.goto t)) W3 hk3
    exact ⟨_, _, hr, .inr ⟨rfl, .goto t, (hIx _).put _ hi3 (by omega) hl3 rfl, hl4.trans (by rw [hre]; rfl), hk4⟩⟩
  | panic ch => exact hp.elim
  | outgrown => exact hp.elim
end
end Go.Proofs.YtoamlkljfmgomaaGreat

/-
  The way through a tree from a key on, with the blocks that come later laid aside, as plain mathematics.
  No condition.
-/
namespace Go.Proofs.YtoamlkljfmgomaaGreat
open Go.RowKit
set_option linter.unusedVariables false
set_option linter.unusedSimpArgs false

/-- the least of these numbers -/
theorem least_exists {P : Nat → Prop} : ∀ n, P n → ∃ k, P k ∧ ∀ j, P j → k ≤ j := by
  intro n
  induction n using Nat.strongRecOn with
  | ind n ih =>
    intro hn
    by_cases h : ∃ j, j < n ∧ P j
    · obtain ⟨j, hj, hp⟩ := h
      exact ih j hj hp
    · exact ⟨n, hn, fun j hj => Nat.le_of_not_lt fun hlt => h ⟨j, hlt, hj⟩⟩
open Classical in
noncomputable def leastN (P : Nat → Prop) : Nat := if h : ∃ k, P k ∧ ∀ j, P j → k ≤ j then Classical.choose h else 0
theorem leastN_spec {P : Nat → Prop} {n : Nat} (h : P n) : P (leastN P) ∧ leastN P ≤ n := by
  have he := least_exists n h
  unfold leastN
  rw [dif_pos he]
  have := Classical.choose_spec he
  exact ⟨this.1, this.2 n h⟩
/-- the blocks with greater keys -/
def gtL (z : Nat → Nat) (s o : Nat) (l : List Nat) : List Nat := l.filter fun x => decide (ltK s o (z x) x)
section
variable {f z : Nat → Nat} {F S Tl : List Nat} {s o n i : Nat} {stk m r : List Nat}
/-- what is to be told behind: the ones laid aside, each with what is below its right son -/
def Rem (f z : Nat → Nat) (F : List Nat) (s o : Nat) : List Nat → List Nat → Prop
  | [], l => l = []
  | x :: st, l => x ∈ F ∧ ∃ b r, l = x :: (b ++ r) ∧ TreeOf f rkN (f (x + 16)) b ∧ Rising z b ∧ (∀ y, y ∈ b → y ∈ F ∧ ltK s o (z y) y) ∧ Rem f z F s o st r
theorem Rem.len : ∀ {st l : List Nat}, Rem f z F s o st l → st.length ≤ l.length
  | [], l, h => Nat.zero_le _
  | x :: st, l, h => by
    obtain ⟨_, b, r, rfl, _, _, _, hr⟩ := h
    have := hr.len
    simp
    omega
/-- where the way is: i have been told, at n the next tree begins, and these are laid aside -/
def WayAt (f z : Nat → Nat) (F Tl : List Nat) (s o n : Nat) (stk : List Nat) (i : Nat) : Prop :=
  ∃ m r, TreeOf f rkN n m ∧ Rising z m ∧ (∀ x, x ∈ m → x ∈ F) ∧ Tl.drop i = gtL z s o m ++ r ∧ Rem f z F s o stk.reverse r
theorem way_start (ht : TreeOf f rkN n S) (hr : Rising z S) (hF : ∀ x, x ∈ S → x ∈ F) : WayAt f z F (gtL z s o S) s o n [] 0 :=
  ⟨S, [], ht, hr, hF, by simp, rfl⟩
theorem WayAt.mem (h : WayAt f z F Tl s o n stk i) (h0 : n ≠ 0) : n ∈ F := by
  obtain ⟨m, r, ht, _, hF, _⟩ := h
  exact hF n (ht.mem h0)
theorem WayAt.short (h : WayAt f z F Tl s o n stk i) : stk.length ≤ Tl.length := by
  obtain ⟨m, r, _, _, _, h1, h2⟩ := h
  have h3 := h2.len
  have h4 := congrArg List.length h1
  simp at h3 h4
  omega
theorem WayAt.sons (h : WayAt f z F Tl s o n stk i) (h0 : n ≠ 0) : (f (n + 8) = 0 ∨ rkN (f (n + 8)) < rkN n) ∧ (f (n + 16) = 0 ∨ rkN (f (n + 16)) < rkN n) := by
  obtain ⟨m, r, ht, _⟩ := h
  obtain ⟨L, R, rfl, hL, hR, tL, tR⟩ := ht.some h0
  exact ⟨rank_or tL hL, rank_or tR hR⟩
/-- a block with a greater key is laid aside -/
theorem WayAt.aside (h : WayAt f z F Tl s o n stk i) (h0 : n ≠ 0) (hk : ltK s o (z n) n) : WayAt f z F Tl s o (f (n + 8)) (stk ++ [n]) i := by
  obtain ⟨m, r, ht, hr, hF, h1, h2⟩ := h
  obtain ⟨L, R, rfl, hL, hR, tL, tR⟩ := ht.some h0
  obtain ⟨a1, a2, a3, a4⟩ := hr.ahead
  have hg : ∀ y, y ∈ R → ltK s o (z y) y := fun y hy => by
    have := a2 y hy
    unfold blkLt keyLt at this
    unfold ltK at hk ⊢
    omega
  have hR' : gtL z s o R = R := List.filter_eq_self.2 fun y hy => decide_eq_true (hg y hy)
  refine ⟨L, n :: (R ++ r), tL, a3, fun x hx => hF x (by simp [hx]), ?_, ?_⟩
  · rw [h1]
    unfold gtL at hR' ⊢
    rw [List.filter_append, List.filter_cons, if_pos (decide_eq_true hk), hR']
    simp
  · rw [List.reverse_append]
    exact ⟨hF n (by simp), R, r, rfl, tR, a4, fun y hy => ⟨hF y (by simp [hy]), hg y hy⟩, h2⟩
/-- a block with a key that isn't greater is passed -/
theorem WayAt.pass (h : WayAt f z F Tl s o n stk i) (h0 : n ≠ 0) (hk : ¬ ltK s o (z n) n) : WayAt f z F Tl s o (f (n + 16)) stk i := by
  obtain ⟨m, r, ht, hr, hF, h1, h2⟩ := h
  obtain ⟨L, R, rfl, hL, hR, tL, tR⟩ := ht.some h0
  obtain ⟨a1, a2, a3, a4⟩ := hr.ahead
  have hL' : gtL z s o L = [] := List.filter_eq_nil_iff.2 fun y hy => by
    have := a1 y hy
    unfold blkLt keyLt at this
    unfold ltK at hk
    simp only [decide_eq_true_eq]
    unfold ltK
    omega
  refine ⟨R, r, tR, a4, fun x hx => hF x (by simp [hx]), ?_, h2⟩
  rw [h1]
  unfold gtL at hL' ⊢
  rw [List.filter_append, List.filter_cons, if_neg (by simpa using hk), hL', List.nil_append]
/-- the last one laid aside is told -/
theorem WayAt.tell {x : Nat} (h : WayAt f z F Tl s o 0 (stk ++ [x]) i) : i < Tl.length ∧ Tl.getD i 0 = x ∧ x ∈ F ∧ WayAt f z F Tl s o (f (x + 16)) stk (i + 1) := by
  obtain ⟨m, r, ht, hr, hF, h1, h2⟩ := h
  rw [ht.zero] at h1
  rw [List.reverse_append] at h2
  obtain ⟨hx, b, r', rfl, tb, rb, hb, hrem⟩ := h2
  have h3 : Tl.drop i = x :: (b ++ r') := h1
  have hi : i < Tl.length := by
    have := congrArg List.length h3
    simp at this
    omega
  have h4 := List.drop_eq_getElem_cons hi
  rw [h3] at h4
  injection h4 with h5 h6
  refine ⟨hi, by rw [List.getD_eq_getElem?_getD, List.getElem?_eq_getElem hi]; exact h5.symm, hx, b, r', tb, rb, fun y hy => (hb y hy).1, ?_, hrem⟩
  rw [← h6]
  congr 1
  exact (List.filter_eq_self.2 fun y hy => decide_eq_true (hb y hy).2).symm
theorem WayAt.done (h : WayAt f z F Tl s o 0 [] i) (hi : i ≤ Tl.length) : i = Tl.length := by
  obtain ⟨m, r, ht, hr, hF, h1, h2⟩ := h
  rw [ht.zero] at h1
  have h2' : r = [] := h2
  subst h2'
  have := congrArg List.length h1
  simp [gtL] at this
  omega
end
end Go.Proofs.YtoamlkljfmgomaaGreat

/-
  Package tree: what 'behind' hands back, as an iterator: it tells the blocks with greater keys, rising.
  Conditions: the Tx stands in memory; the words say the tree of some blocks.
-/
namespace Go.Proofs.YtoamlkljfmgomaaGreat
open Go.RowKit Go.Shelf
set_option linter.unusedVariables false
set_option linter.unusedSimpArgs false
set_option maxRecDepth 100000
attribute [local go_sem] Oper.semAt_some

/-- What the iterator leans on in memory: its boxes, and its row. -/
structure BhM (w W V : World) (wb kb lb T s o : Nat) (J : List Nat → World → Prop) (v : Value) (stk : List Nat) (i : Nat) : Prop where
  told : J (List.range i) V
  below : Below w.heap.size w V
  since : W.heap.size ≤ V.heap.size
  box : V.heap[wb]? = some (.cells #[.pointer (some ⟨T, 0, none⟩)] 126 (0, 0))
  key : V.heap[kb]? = some (.cells #[.int .u64 (s : Nat), .int .u64 (o : Nat)] 131 (0, 0))
  row : OwnW V W.heap.size v stk
  leads : ∀ b, RowAt lb V b → b < V.heap.size ∧ b ≠ wb ∧ b ≠ kb
  off : ∀ g, v.ownBlock = some g → ¬ RowAt lb V g
section
variable {w W V V' : World} {wb kb lb T s o i x : Nat} {J : List Nat → World → Prop} {v v' : Value} {stk : List Nat}
theorem RowAt.past {A C : World} {row : Option Nat} {b : Nat} (h : RowAt lb C b) (hg : A.grownBy C row) (hlb : lb < A.heap.size) (hr : row ≠ some lb) : RowAt lb A b := h.back hg hlb hr
theorem BhM.later (h : BhM w W V wb kb lb T s o J v stk i) (hJ : Bears lb W.heap.size J) (hlb : lb < W.heap.size) (hg : V.grownBy V' none) : BhM w W V' wb kb lb T s o J v stk i where
  told := hJ _ _ _ none h.told hg (fun r e => by cases e)
  below := h.below.grown hg h.below.size (fun k e => by cases e)
  since := Nat.le_trans h.since hg.size
  box := two_held1 h.box hg
  key := two_held h.key hg
  row := h.row.later hg
  leads := fun b hb => by
    have := h.leads b (hb.back hg (Nat.lt_of_lt_of_le hlb h.since) (by simp))
    exact ⟨Nat.lt_of_lt_of_le this.1 hg.size, this.2⟩
  off := fun g e hb => h.off g e (hb.back hg (Nat.lt_of_lt_of_le hlb h.since) (by simp))
theorem own_u64 {base : Nat} {A : World} {xs : List Nat} {g : Nat} (h : OwnW A base v xs) (hg : v.ownBlock = some g) : base ≤ g ∧ g < A.heap.size ∧ ∃ c fr, A.heap[g]? = some (.cells c 23 fr) := by
  obtain ⟨_, cur, hb⟩ := row_block h hg
  exact ⟨(World.ownsRow.lt h g hg).1, (World.ownsRow.lt h g hg).2, cur, _, hb⟩
/-- one more is laid aside: the row has it, or a new one has them all -/
theorem BhM.push {tmp : Obj} (h : BhM w W V wb kb lb T s o J v stk i) (hJ : Bears lb W.heap.size J) (hlb : lb < W.heap.size) (hw : w.heap.size ≤ W.heap.size) (hown : OwnW V' W.heap.size v' (stk ++ [x])) (hg : (V.alloc tmp).grownBy V' v.ownBlock) (hl : v'.ownBlock = v.ownBlock ∨ v'.ownBlock = some (V.heap.size + 1)) : BhM w W V' wb kb lb T s o J v' (stk ++ [x]) i := by
  have h1 := h.later hJ hlb (World.grownBy_alloc V tmp none)
  have hlb2 : lb < (V.alloc tmp).heap.size := Nat.lt_of_lt_of_le hlb h1.since
  have hne : v.ownBlock ≠ some lb := fun e => by have := (own_u64 h1.row e).1; omega
  have hkeep : ∀ (b : Nat) (c : Array Value) (t : TypeId) (fr : Nat × Nat), (V.alloc tmp).heap[b]? = some (Obj.cells c t fr) → t ≠ 23 → V'.heap[b]? = some (Obj.cells c t fr) := fun b c t fr hb ht => by
    refine (hg.block b (lt_of_block hb) fun e => ?_).trans hb
    obtain ⟨_, _, c', fr', h2⟩ := own_u64 h1.row e.symm
    rw [hb] at h2
    injection h2 with h2
    injection h2 with _ h2 _
    exact ht h2
  refine ⟨hJ _ _ _ _ h1.told hg (fun r e => ?_), h1.below.grown hg h1.below.size (fun k e => Nat.le_trans hw (own_u64 h1.row e).1), Nat.le_trans h1.since hg.size, hkeep _ _ _ _ h1.box (by decide), hkeep _ _ _ _ h1.key (by decide), hown, fun b hb => ?_, fun g e hb => ?_⟩
  · obtain ⟨a1, a2, a3⟩ := own_u64 h1.row e
    exact ⟨a1, a3, h1.off r e⟩
  · have := h1.leads b (hb.back hg hlb2 hne)
    exact ⟨Nat.lt_of_lt_of_le this.1 hg.size, this.2⟩
  · have hb' := hb.back hg hlb2 hne
    rcases hl with e2 | e2
    · exact h1.off g (e2 ▸ e) hb'
    · rw [e2] at e
      injection e with e
      have := (h.leads g (hb'.back (World.grownBy_alloc V tmp none) (Nat.lt_of_lt_of_le hlb h.since) (by simp))).1
      omega
/-- the last one is taken off -/
theorem BhM.pop {a : Option Addr} {k c : Nat} (h : BhM w W V wb kb lb T s o J (.slice a (k + 1) c) (stk ++ [x]) i) (hk : stk.length = k) : BhM w W V wb kb lb T s o J (.slice a k c) stk i where
  told := h.told
  below := h.below
  since := h.since
  box := h.box
  key := h.key
  row := by
    obtain ⟨h1, h2 | ⟨g, cap, cur, hv, hb, hh, hn, hc, hs, ht⟩⟩ := h.row
    · have := h2.2; simp at this
    · injection hv with e1 e2 e3
      subst e1 e3
      refine ⟨by simp [cellsU, hk], .inr ⟨g, c, cur, by rw [hk], hb, hh, by simp at hn; omega, hc, hs, ?_⟩⟩
      have e4 : (stk ++ [x]).length * 1 = stk.length + 1 := by simp
      rw [e4] at ht
      have h9 := congrArg (List.take stk.length) ht
      rw [List.take_take, Nat.min_eq_left (by omega)] at h9
      rw [Nat.mul_one, h9]
      simp [cellsU]
  leads := h.leads
  off := fun g e => h.off g (by cases a with
    | none => simp [Value.ownBlock] at e
    | some b => exact e)
/-- one is told -/
theorem BhM.tell (h : BhM w W V wb kb lb T s o J v stk i) (hwb : wb ≠ lb) (hkb : kb ≠ lb) (hlb : lb < W.heap.size) (hw : w.heap.size ≤ W.heap.size) (hJ : J (List.range i ++ [i]) V') (hk : TkKeep w.heap.size lb V V') : BhM w W V' wb kb lb T s o J v stk (i + 1) where
  told := by rw [List.range_succ]; exact hJ
  below := h.below.trans hk.below
  since := Nat.le_trans h.since hk.below.size
  box := (hk.frame wb ⟨_, _, _, h.box⟩ hwb (fun hr => (h.leads _ hr).2.1 rfl)).trans h.box
  key := (hk.frame kb ⟨_, _, _, h.key⟩ hkb (fun hr => (h.leads _ hr).2.2 rfl)).trans h.key
  row := by
    obtain ⟨h1, h2 | ⟨g, cap, cur, hv, hb, hh, hn, hc, hs, ht⟩⟩ := h.row
    · exact ⟨h1, .inl h2⟩
    · exact ⟨h1, .inr ⟨g, cap, cur, hv, hb, (hk.frame g ⟨_, _, _, hh⟩ (by omega) (h.off g (by rw [hv]; rfl))).trans hh, hn, hc, hs, ht⟩⟩
  leads := fun b hb => by
    rcases hk.row b hb with h1 | h1
    · have := h.leads b h1
      exact ⟨Nat.lt_of_lt_of_le this.1 hk.below.size, this.2⟩
    · have h2 := lt_of_block h.box
      have h3 := lt_of_block h.key
      exact ⟨h1.2, by omega, by omega⟩
  off := fun g e hb => by
    rcases hk.row g hb with h1 | h1
    · exact h.off g e h1
    · have := (own_u64 h.row e).2.1; omega
end
theorem wpListIn_append_num {F : Fence} {nF : Nat} {w2 : World} {ops : Array Oper} {rest : List Oper} {o : Oper} {a : Act} {Q : Exit → Act → World → Prop} (hgd : o.guard = none) (s x : Operand)
    (ho : o.op = .call { callee := .builtin .append, args := #[s, x], argTypes := #[27, 27] })
    (base : Nat) (v : Value) (xs : List Nat) (hs : a.eval s = v) (hown : OwnW w2 base v xs) (y : Nat)
    (hx : a.eval x = .slice (some ⟨w2.heap.size, 0, none⟩) 1 1) (hn : xs.length ≤ 10000000) (hbase : base ≤ w2.heap.size)
    (h : ∀ v' w', OwnW w' base v' (xs ++ [y]) → (w2.alloc (.cells #[.int .u64 (y : Nat)] 23)).grownBy w' v.ownBlock → (v'.ownBlock = v.ownBlock ∨ v'.ownBlock = some (w2.heap.size + 1)) → wpListIn F nF Tryz.prog ops Q rest (a.put o.dst v') w') :
    wpListIn F nF Tryz.prog ops Q (o :: rest) a (w2.alloc (.cells #[.int .u64 (y : Nat)] 23)) := by
  obtain ⟨i0, hi, hz0, hz1, hz2⟩ := info_parts info_u64
  refine wpListIn_append_own_at _ hgd s x 27 ho base 23 i0 (.int .u64 0) 1 8 Tryz.underlying27 hi hz0 hz1 hz2 rfl (by decide) v xs.length (cellsU xs) hs (World.ownsRow.alloc hown _) ⟨w2.heap.size, 0, none⟩ 1 1 [.int .u64 (y : Nat)] hx rfl (cell_one_new _ _ _) (by simp [Value.oneCell']) (by unfold maxLen; omega) (by omega) (by rw [World.size_alloc]; omega) fun v' w' h1 h2 _ h4 => h v' w' ?_ h2 (by rw [World.size_alloc] at h4; exact h4)
  unfold OwnW
  have e1 : cellsU (xs ++ [y]) = cellsU xs ++ [.int .u64 (y : Nat)] := by simp [cellsU]
  rw [e1, List.length_append]
  exact h1
theorem rkN_lt (x : Nat) : rkN x < 18446744073709551616 := by unfold rkN; rw [IntKind.wrap_u64]; omega
/-- a round's state, and how far it is still -/
def BhR (w W : World) (wb kb lb T s o : Nat) (J : List Nat → World → Prop) (f z : Nat → Nat) (F Tl : List Nat) (v q : Value) (V : World) (k : Nat) : Prop :=
  ∃ n i stk, q = .int .u64 (n : Nat) ∧ BhM w W V wb kb lb T s o J v stk i ∧ WayAt f z F Tl s o n stk i ∧ i ≤ Tl.length ∧ k = (Tl.length - i) * 36893488147419103232 + rkN n
theorem bh_next {R R' : Nat → Prop} {k k' : Nat} (h : R' k') (hk : leastN R = k) (hlt : k' < k) : (∃ j, R' j) ∧ leastN R' < leastN R :=
  ⟨⟨k', h⟩, by rw [hk]; exact Nat.lt_of_le_of_lt (leastN_spec h).2 hlt⟩
section
variable {w : World} {T M : Nat} {R : Option Nat} {B D : Nat} {ws : List Nat} {l l' : List (Nat × Nat)} {z : Nat → Nat} {F S : List Nat}
theorem behind_any (T s o : Nat) (w : World) : Calls Tryz.prog 92 #[.agg #[.pointer (some ⟨T, 0, none⟩)], .agg #[.int .u64 (s : Nat), .int .u64 (o : Nat)]] w fun e w' => e = .returned (.func (.func 116) #[] #[.pointer (some ⟨w.heap.size, 0, none⟩), .pointer (some ⟨w.heap.size + 1, 0, none⟩)]) ∧ (w.alloc (.cells #[.pointer (some ⟨T, 0, none⟩)] 126)).alloc (.cells #[.int .u64 (s : Nat), .int .u64 (o : Nat)] 131) = w' := by
  go_enter Tryz.func92, Tryz.ntmps92
  go_wp2
  go_ret
  exact ⟨rfl, rfl⟩
set_option maxHeartbeats 8000000 in
theorem behind1_tells (h : Thinks w T M R B D ws l) (hB : Bed ws l z F) (hT : Tame z F S) (ht : TreeOf (txSee ws l) rkN (txSee ws l 32) S) (hlen : S.length ≤ 1000000) (s o wb kb lb : Nat) {w1 : World} (hB1 : Below w.heap.size w w1)
    (hwb : w1.heap[wb]? = some (.cells #[.pointer (some ⟨T, 0, none⟩)] 126 (0, 0))) (hkb : w1.heap[kb]? = some (.cells #[.int .u64 (s : Nat), .int .u64 (o : Nat)] 131 (0, 0))) (hlb : lb < w1.heap.size) (hnw : wb ≠ lb) (hnk : kb ≠ lb) (hl : ∀ b, RowAt lb w1 b → b < w1.heap.size ∧ b ≠ wb ∧ b ≠ kb) :
    TellsG 5 116 #[.pointer (some ⟨wb, 0, none⟩), .pointer (some ⟨kb, 0, none⟩)] (fun x => #[.int .u64 ((gtL z s o S).getD x 0 : Nat)]) (gtL z s o S).length lb w.heap.size w1 := by
  intro yl J Jx W hW hJ hJx hY h0
  show CallsIn Fence.wide 5 Tryz.prog 116 #[.func (.yield yl) #[] #[], .pointer (some ⟨wb, 0, none⟩), .pointer (some ⟨kb, 0, none⟩)] W _
  have hwg1 := below_grown hB1
  have hWg := below_grown hW
  have hBW : Below w.heap.size w W := hB1.grown hWg hB1.size (fun k e => by cases e)
  have hroot : ∀ V : World, w.grownBy V none → CallsIn Fence.wide 4 Tryz.prog 67 #[.pointer (some ⟨T, 0, none⟩)] V _ := fun V hg => (callsIn_wide (n := 4)).2 (hroot_any (h.later hg))
  have hkey := fun (V : World) (hg : w.grownBy V none) (n : Nat) (hn : n ∈ F) => tkey_any (h.later hg) n (by have := (hB.first hn).2; omega)
  have htwL := fun (V : World) (hg : w.grownBy V none) (n : Nat) (hn : n ∈ F) (hk : ltK s o (z n) n) => toward_left (h.later hg) n s o (by have := (hB.first hn).2; omega) (by rw [hB.keys n hn]; exact hk)
  have htwR := fun (V : World) (hg : w.grownBy V none) (n : Nat) (hn : n ∈ F) (hk : ¬ ltK s o (z n) n) => toward_right (h.later hg) n s o (hB.first hn).2 (by rw [hB.keys n hn]; exact hk)
  have hload := fun (V : World) (hg : w.grownBy V none) (q : Nat) (hq : q < 18446744073709551616) => txload_any (h.later hg) q hq
  have hloadI := fun (V : World) (hg : w.grownBy V none) (q : Nat) (hq : q < 18446744073709551616) => (callsIn_wide (n := 4)).2 (txload_any (h.later hg) q hq)
  have hway := way_start (s := s) (o := o) ht hT.rise hT.sub
  have hF64 : ∀ n, n ∈ F → n + 16 < 18446744073709551616 := fun n hn => (hB.first hn).2
  have hkeys := hB.keys
  have hTl : (gtL z s o S).length ≤ 1000000 := Nat.le_trans (List.length_filter_le _ _) hlen
  obtain ⟨Tl, eTl⟩ : ∃ Tl, gtL z s o S = Tl := ⟨_, rfl⟩
  rw [eTl] at hway hY hTl ⊢
  obtain ⟨f, ef⟩ : ∃ f, txSee ws l = f := ⟨_, rfl⟩
  rw [ef] at hway hload hloadI hroot hkey hkeys
  obtain ⟨r0, hr0⟩ : ∃ r0, f 32 = r0 := ⟨_, rfl⟩
  rw [hr0] at hroot hway
  have HM0 : BhM w W W wb kb lb T s o J (.slice none 0 0) [] 0 := ⟨h0, hBW, Nat.le_refl _, two_held1 hwb hWg, two_held hkb hWg, World.ownsRow_nil _ _ _ _, fun b hb => by
    have := hl b (hb.back hWg hlb (by simp))
    exact ⟨Nat.lt_of_lt_of_le this.1 hWg.size, this.2⟩, fun g e => by simp [Value.ownBlock] at e⟩
  have hlbW : lb < W.heap.size := Nat.lt_of_lt_of_le hlb hWg.size
  have hwW := Nat.le_trans hwg1.size hWg.size
  have HJ := Lib.hid hJ
  have HY := Lib.hid hY
  have HW0 := Lib.hid hway
  have HM := Lib.hid HM0
  have HKEY := Lib.hid hkey
  have HTL := Lib.hid htwL
  have HTR := Lib.hid htwR
  have HLD := Lib.hid hload
  have HLI := Lib.hid hloadI
  have HKS := Lib.hid hkeys
  have H64 := Lib.hid hF64
  have hrt := hroot W (grown_trans hwg1 hWg)
  have c0 := cell_of_one HM0.box
  obtain ⟨c1, c2⟩ := two_cells HM0.key
  clear hl hwb hkb hroot hkey htwL htwR hload hloadI hway hF64 hkeys h hB ht hT hY h0 HM0 hJ hJx ef eTl hr0
  refine callsIn_of_wp Tryz.func116 rfl trivial ?_ rfl
  simp only [Tryz.ntmps116, List.size_toArray, List.length_cons, List.length_nil, Nat.reduceAdd, Nat.reduceSub, Array.replicate_succ, Array.replicate_zero, List.push_toArray, List.append_toArray, List.nil_append, List.cons_append]
  gi_wp2_with (refine ⟨trivial, ?_⟩; gi_at_call 67; (with_reducible refine hrt.mono ?_); rintro e w2 ⟨rfl, hg2⟩)
  gi_loopw [4, 5] (fun v q wr => ∃ k, BhR w W wb kb lb T s o J f z F Tl v q wr k) (fun v q wr => leastN (BhR w W wb kb lb T s o J f z F Tl v q wr))
  case atStart => exact ⟨_, r0, 0, [], rfl, HM.out.later HJ.out hlbW hg2, HW0.out, Nat.zero_le _, rfl⟩
  case round =>
    obtain ⟨k0, hk0⟩ := hrel
    obtain ⟨⟨n, i, stk, rfl, hM, hW, hi, hk⟩, _⟩ := leastN_spec hk0
    obtain ⟨sa, sc, hv, hat⟩ := hM.row.lie
    subst hv
    have HK := Lib.hid hk
    have HMM := Lib.hid hM
    have HWW := Lib.hid hW
    have hgV : w.grownBy wr none := below_grown hM.below
    have c0 := cell_of_one hM.box
    obtain ⟨c1, c2⟩ := two_cells hM.key
    have hsh := hW.short
    clear hk hk0 hrt hg2
    by_cases h0 : n = 0
    · subst h0
      rcases List.eq_nil_or_concat stk with rfl | ⟨stk', x, hst⟩
      · have hdone := hW.done hi
        have HD := Lib.hid hdone
        clear hM hW hat hdone
        gi_wp2
        go_end0
        exact ⟨⟨_, rfl⟩, .inl ⟨_, rfl, by rw [← HD.out]; exact HMM.out.told⟩⟩
      · rw [List.concat_eq_append] at hst
        subst hst
        obtain ⟨t1, t2, t3, t4⟩ := hW.tell
        obtain ⟨bl, off, rfl, hbl, hcs⟩ := hat.cells (by simp)
        have c9 := hcs stk'.length (by simp)
        rw [show (stk' ++ [x]).getD stk'.length 0 = x by simp] at c9
        obtain ⟨k, ek⟩ : ∃ k, stk'.length = k := ⟨_, rfl⟩
        have el : (stk' ++ [x]).length = k + 1 := by simp [ek]
        rw [ek] at c9
        rw [el] at hsh
        simp only [el] at HMM HK ⊢
        have hcap : (k : Int) ≤ (sc : Int) := by
          rcases hM.row.2 with h9 | ⟨_, _, _, h9, _, _, h10, _⟩
          · have := h9.2; simp at this
          · injection h9 with _ _ h9
            rw [el] at h10
            omega
        have hxF := t3
        have hx64 := H64.out x t3
        have e16 : IntKind.u64.wrap ((x : Int) + 16) = (x + 16 : Nat) := by rw [IntKind.wrap_u64]; omega
        obtain ⟨x16, ex16⟩ : ∃ q, x + 16 = q := ⟨_, rfl⟩
        rw [ex16] at e16
        obtain ⟨y, hy⟩ : ∃ y, f x16 = y := ⟨_, rfl⟩
        have HW2 := Lib.hid (show WayAt f z F Tl s o y stk' (i + 1) from by rw [← hy, ← ex16]; exact t4)
        have HPOP := Lib.hid (HMM.out.pop ek)
        have hyld := HY.out (List.range i) i wr HMM.out.told (by simpa using t1)
        rw [t2] at hyld
        obtain ⟨fn, tmps, assign, body, hyy, hR⟩ := hyld
        have HY64 := Lib.hid (rkN_lt y)
        have hx64' : x16 < 18446744073709551616 := by omega
        clear hM hW hat hcs t2 t3 t4 el ex16
        gi_wp2
        refine hR.mono ?_
        rintro e W3 (⟨rfl, hJ4, hk4⟩ | ⟨rfl, hJx4⟩)
        · have HM3 := Lib.hid (HPOP.out.tell hnw hnk hlbW hwW hJ4 hk4)
          have hgV3 : w.grownBy W3 none := below_grown HM3.out.below
          have d0 := cell_of_one HM3.out.box
          have hli := HLI.out W3 hgV3 x16 hx64'
          rw [hy] at hli
          clear hyy hR hJ4 hk4 c0 c1 c2 c9
          gi_wp2_with (refine ⟨trivial, ?_⟩; gi_at_call 20; (with_reducible refine hli.mono ?_); rintro e w5 ⟨rfl, hg5⟩)
          refine bh_next ⟨y, i + 1, stk', rfl, HM3.out.later HJ.out hlbW hg5, HW2.out, by omega, rfl⟩ HK.out ?_
          have := HY64.out
          omega
        · gi_wp2
          refine bodyPost_ret (results_none rfl _ _ _) rfl ?_
          exact ⟨⟨_, rfl⟩, .inr ⟨_, ⟨i + 1, t1, by rw [List.range_succ]⟩, hJx4⟩⟩
    · have hn0 : ¬ (n : Int) = 0 := by omega
      have hb0 : ((n : Int) != 0) = true := by simpa using h0
      have hnF := hW.mem h0
      clear hM hW hat
      by_cases hgt : ltK s o (z n) n
      · skip
        have hky := fun (V : World) (hg : w.grownBy V none) => HKEY.out V hg n hnF
        rw [HKS.out n hnF] at hky
        have hcmp := fun w => tcompare_grown s o (z n) n w
        rw [cmpK_lt hgt] at hcmp
        obtain ⟨n8, e8⟩ : ∃ q, n + 8 = q := ⟨_, rfl⟩
        have htw := fun (V : World) (hg : w.grownBy V none) => HTL.out V hg n hnF hgt
        rw [e8] at htw
        have hld := fun (V : World) (hg : w.grownBy V none) => HLD.out V hg n8 (by have := H64.out n hnF; omega)
        obtain ⟨y, hy⟩ : ∃ y, f n8 = y := ⟨_, rfl⟩
        rw [hy] at hld
        have HW2 := Lib.hid (show WayAt f z F Tl s o y (stk ++ [n]) i from by rw [← hy, ← e8]; exact HWW.out.aside h0 hgt)
        have HRK := Lib.hid (show rkN y < rkN n from rank_son (by rw [← hy, ← e8]; exact (HWW.out.sons h0).1) (rank_pos h0 (by have := H64.out n hnF; omega)))
        clear hy e8 h0
        gi_wp2
        refine wpIn_wide.2 ?_
        have HG : wr.grownBy wr.drew none := grown_drew (grown_refl _ _)
        have hcell : ∀ {wq : World}, wr.grownBy wq none → wq.cell? ⟨wb, 0, none⟩ = some (.pointer (some ⟨T, 0, none⟩)) ∧ wq.cell? ⟨kb, 0, none⟩ = some (.int .u64 (s : Nat)) ∧ wq.cell? ⟨kb, 1, none⟩ = some (.int .u64 (o : Nat)) := fun {wq} hg => ⟨cell_of_one (two_held1 HMM.out.box hg), two_cells (two_held HMM.out.key hg)⟩
        obtain ⟨d0, d1, d2⟩ := hcell HG
        clear c0 c1 c2
        go_region_held3 (fun wq => wq.cell? ⟨wb, 0, none⟩ = some (.pointer (some ⟨T, 0, none⟩)) ∧ wq.cell? ⟨kb, 0, none⟩ = some (.int .u64 (s : Nat)) ∧ wq.cell? ⟨kb, 1, none⟩ = some (.int .u64 (o : Nat))) (exact hcell HG) (first | (go_at_call 98; (with_reducible refine (hky _ (grown_trans hgV HG)).mono ?_); rintro e w9 ⟨rfl, hg9⟩; replace HG := grown_trans HG hg9; obtain ⟨d0, d1, d2⟩ := hcell HG) | (go_at_call 101; (with_reducible refine (hcmp _).mono ?_); rintro e w9 ⟨rfl, hg9⟩; replace HG := grown_trans HG hg9; obtain ⟨d0, d1, d2⟩ := hcell HG))
        have HM9 := Lib.hid (HMM.out.later HJ.out hlbW HG)
        obtain ⟨V9, eV9⟩ : ∃ V9 : World, V9 = w9 := ⟨_, rfl⟩
        subst eV9
        gi_wp2_with (gi_at_builtin; go_must (refine wpListIn_append_num rfl _ _ rfl W.heap.size (.slice sa stk.length sc) stk rfl HM9.out.row n rfl (by omega) HM9.out.since ?_); intro v' w5 hown5 hg5 hloc5)
        have HM5 := Lib.hid (HM9.out.push (x := n) HJ.out hlbW hwW hown5 hg5 hloc5)
        have hgV5 : w.grownBy w5 none := below_grown HM5.out.below
        refine wpIn_wide.2 ?_
        have HG5 : w5.grownBy w5.drew none := grown_drew (grown_refl _ _)
        have hcell5 : ∀ {wq : World}, w5.grownBy wq none → wq.cell? ⟨wb, 0, none⟩ = some (.pointer (some ⟨T, 0, none⟩)) ∧ wq.cell? ⟨kb, 0, none⟩ = some (.int .u64 (s : Nat)) ∧ wq.cell? ⟨kb, 1, none⟩ = some (.int .u64 (o : Nat)) := fun {wq} hg => ⟨cell_of_one (two_held1 HM5.out.box hg), two_cells (two_held HM5.out.key hg)⟩
        clear hcell d0 d1 d2
        obtain ⟨d0, d1, d2⟩ := hcell5 HG5
        go_region_held3 (fun wq => wq.cell? ⟨wb, 0, none⟩ = some (.pointer (some ⟨T, 0, none⟩)) ∧ wq.cell? ⟨kb, 0, none⟩ = some (.int .u64 (s : Nat)) ∧ wq.cell? ⟨kb, 1, none⟩ = some (.int .u64 (o : Nat))) (exact hcell5 HG5) (first | (go_at_call 103; (with_reducible refine (htw _ (grown_trans hgV5 HG5)).mono ?_); rintro e w9 ⟨rfl, hg9⟩; replace HG5 := grown_trans HG5 hg9; obtain ⟨d0, d1, d2⟩ := hcell5 HG5) | (go_at_call 20; (with_reducible refine (hld _ (grown_trans hgV5 HG5)).mono ?_); rintro e w9 ⟨rfl, hg9⟩; replace HG5 := grown_trans HG5 hg9; obtain ⟨d0, d1, d2⟩ := hcell5 HG5))
        gi_wp2
        exact bh_next ⟨y, i, _, rfl, HM5.out.later HJ.out hlbW HG5, HW2.out, hi, rfl⟩ HK.out (by have := HRK.out; omega)
      · skip
        have hky := fun (V : World) (hg : w.grownBy V none) => HKEY.out V hg n hnF
        rw [HKS.out n hnF] at hky
        have hcmp := fun w => tcompare_grown s o (z n) n w
        obtain ⟨cc, ecc⟩ : ∃ cc, cmpK s o (z n) n = cc := ⟨_, rfl⟩
        have hcc : ¬ cc < 0 := by rcases cmpK_ge hgt with e | e <;> omega
        rw [ecc] at hcmp
        obtain ⟨n8, e8⟩ : ∃ q, n + 16 = q := ⟨_, rfl⟩
        have htw := fun (V : World) (hg : w.grownBy V none) => HTR.out V hg n hnF hgt
        rw [e8] at htw
        have hld := fun (V : World) (hg : w.grownBy V none) => HLD.out V hg n8 (by have := H64.out n hnF; omega)
        obtain ⟨y, hy⟩ : ∃ y, f n8 = y := ⟨_, rfl⟩
        rw [hy] at hld
        have HW2 := Lib.hid (show WayAt f z F Tl s o y stk i from by rw [← hy, ← e8]; exact HWW.out.pass h0 hgt)
        have HRK := Lib.hid (show rkN y < rkN n from rank_son (by rw [← hy, ← e8]; exact (HWW.out.sons h0).2) (rank_pos h0 (by have := H64.out n hnF; omega)))
        clear hy e8 h0 ecc
        gi_wp2
        refine wpIn_wide.2 ?_
        have HG : wr.grownBy wr.drew none := grown_drew (grown_refl _ _)
        have hcell : ∀ {wq : World}, wr.grownBy wq none → wq.cell? ⟨wb, 0, none⟩ = some (.pointer (some ⟨T, 0, none⟩)) ∧ wq.cell? ⟨kb, 0, none⟩ = some (.int .u64 (s : Nat)) ∧ wq.cell? ⟨kb, 1, none⟩ = some (.int .u64 (o : Nat)) := fun {wq} hg => ⟨cell_of_one (two_held1 HMM.out.box hg), two_cells (two_held HMM.out.key hg)⟩
        obtain ⟨d0, d1, d2⟩ := hcell HG
        clear c0 c1 c2
        go_region_held3 (fun wq => wq.cell? ⟨wb, 0, none⟩ = some (.pointer (some ⟨T, 0, none⟩)) ∧ wq.cell? ⟨kb, 0, none⟩ = some (.int .u64 (s : Nat)) ∧ wq.cell? ⟨kb, 1, none⟩ = some (.int .u64 (o : Nat))) (exact hcell HG) (first | (go_at_call 98; (with_reducible refine (hky _ (grown_trans hgV HG)).mono ?_); rintro e w9 ⟨rfl, hg9⟩; replace HG := grown_trans HG hg9; obtain ⟨d0, d1, d2⟩ := hcell HG) | (go_at_call 101; (with_reducible refine (hcmp _).mono ?_); rintro e w9 ⟨rfl, hg9⟩; replace HG := grown_trans HG hg9; obtain ⟨d0, d1, d2⟩ := hcell HG))
        gi_wp2
        have HM5 := Lib.hid (HMM.out.later HJ.out hlbW HG)
        obtain ⟨w5, ew5⟩ : ∃ w5 : World, w5 = w9 := ⟨_, rfl⟩
        subst ew5
        have hgV5 : w.grownBy w5 none := below_grown HM5.out.below
        refine wpIn_wide.2 ?_
        have HG5 : w5.grownBy w5.drew none := grown_drew (grown_refl _ _)
        have hcell5 : ∀ {wq : World}, w5.grownBy wq none → wq.cell? ⟨wb, 0, none⟩ = some (.pointer (some ⟨T, 0, none⟩)) ∧ wq.cell? ⟨kb, 0, none⟩ = some (.int .u64 (s : Nat)) ∧ wq.cell? ⟨kb, 1, none⟩ = some (.int .u64 (o : Nat)) := fun {wq} hg => ⟨cell_of_one (two_held1 HM5.out.box hg), two_cells (two_held HM5.out.key hg)⟩
        clear hcell d0 d1 d2
        obtain ⟨d0, d1, d2⟩ := hcell5 HG5
        go_region_held3 (fun wq => wq.cell? ⟨wb, 0, none⟩ = some (.pointer (some ⟨T, 0, none⟩)) ∧ wq.cell? ⟨kb, 0, none⟩ = some (.int .u64 (s : Nat)) ∧ wq.cell? ⟨kb, 1, none⟩ = some (.int .u64 (o : Nat))) (exact hcell5 HG5) (first | (go_at_call 103; (with_reducible refine (htw _ (grown_trans hgV5 HG5)).mono ?_); rintro e w9 ⟨rfl, hg9⟩; replace HG5 := grown_trans HG5 hg9; obtain ⟨d0, d1, d2⟩ := hcell5 HG5) | (go_at_call 20; (with_reducible refine (hld _ (grown_trans hgV5 HG5)).mono ?_); rintro e w9 ⟨rfl, hg9⟩; replace HG5 := grown_trans HG5 hg9; obtain ⟨d0, d1, d2⟩ := hcell5 HG5))
        gi_wp2
        exact bh_next ⟨y, i, _, rfl, HM5.out.later HJ.out hlbW HG5, HW2.out, hi, rfl⟩ HK.out (by have := HRK.out; omega)
end
end Go.Proofs.YtoamlkljfmgomaaGreat

/-
  Package tree: the contracts of All and After.
  Conditions: the Tx stands in memory; the words say the tree of some blocks.
-/
namespace Go.Proofs.YtoamlkljfmgomaaGreat
open Go.RowKit Go.Shelf
set_option linter.unusedVariables false
set_option linter.unusedSimpArgs false
set_option maxRecDepth 100000
attribute [local go_sem] Oper.semAt_some

section
variable {w : World} {T M : Nat} {R : Option Nat} {B D : Nat} {ws : List Nat} {l l' : List (Nat × Nat)} {z : Nat → Nat} {F S : List Nat}
theorem Rests.of {lb B : Nat} {I : List Nat → World → Prop} (h : ∀ s A C row, I s A → A.grownBy C row → (∀ r, row = some r → B ≤ r ∧ r ≠ lb ∧ ¬ RowAt lb A r) → I s C) (hc : ∀ s A, I s A → ∃ c t fr, A.heap[lb]? = some (.cells c t fr) ∧ t ≠ 23 ∧ ∀ b, RowAt lb A b → ∃ c' t' fr', A.heap[b]? = some (.cells c' t' fr')) : Rests lb B I := fun s A C row hs hg hr => h s A C row hs hg fun r e => by
  obtain ⟨h1, h2⟩ := hr r e
  obtain ⟨c, t, fr, h3, h4, h5⟩ := hc s A hs
  rcases h2 with ⟨o, h6, h7⟩ | ⟨⟨c', fr', h6⟩, h8⟩
  · refine ⟨h1, fun e2 => ?_, fun hra => ?_⟩
    · subst e2; rw [h3] at h6; cases h6; cases h7
    · obtain ⟨c', t', fr', h8⟩ := h5 r hra
      rw [h8] at h6; cases h6; cases h7
  · refine ⟨h1, fun e2 => ?_, h8⟩
    subst e2
    rw [h3] at h6
    injection h6 with h6
    injection h6 with _ h6
    exact h4 h6
/-- the x-th one of them -/
def atL (l : List Nat) (x : Nat) : Nat := l.getD x 0
theorem atL_all (l : List Nat) : (List.range l.length).map (atL l) = l := by
  apply List.ext_getElem
  · simp
  · intro i h1 h2
    simp only [List.getElem_map, List.getElem_range, atL]
    rw [List.getD_eq_getElem?_getD, List.getElem?_eq_getElem h2]; rfl
/-- What All's loop holds: the row that its variable leads to has what has been told. -/
structure AlI (w : World) (lb : Nat) (Tl pre : List Nat) (W : World) : Prop where
  row : ∃ v, Boxed W lb 27 v ∧ OwnW W w.heap.size v (pre.map (atL Tl))
  below : Below w.heap.size w W
theorem AlI.rests (w : World) (n lb : Nat) (Tl : List Nat) (hn : w.heap.size ≤ n) : Rests lb n (AlI w lb Tl) := Rests.of (fun s A C row hs hg hr => by
  obtain ⟨v, h1, h2⟩ := hs.row
  refine ⟨⟨v, (hg.block lb (lt_of_block h1) (fun e => (hr lb e.symm).2.1 rfl)).trans h1, ?_⟩, hs.below.grown hg hs.below.size (fun k e => Nat.le_trans hn (hr k e).1)⟩
  refine World.ownsRow.kept h2 hg ?_
  by_cases e : v.ownBlock = none
  · exact .inl e
  · refine .inr fun e2 => ?_
    obtain ⟨g, hg2⟩ := Option.ne_none_iff_exists'.1 e
    exact (hr g (by rw [← e2, hg2])).2.2 ⟨v, h1.cell, hg2⟩) fun s A hs => by
  obtain ⟨v, h1, h2⟩ := hs.row
  refine ⟨_, _, _, h1, by decide, fun b hb => ?_⟩
  obtain ⟨u, h3, h4⟩ := hb
  rw [show A.cell? ⟨lb, 0, none⟩ = some v from h1.cell] at h3
  injection h3 with h3
  subst h3
  obtain ⟨_, _, c, fr, h5⟩ := own_u64 h2 h4
  exact ⟨c, _, fr, h5⟩
theorem al_stays {W W1 : World} {tmp : Obj} {v u : Value} {base lb n : Nat} {xs : List Nat} (hv : Boxed W lb 27 v) (hown : OwnW W base v xs) (hg : (W.alloc tmp).grownBy W1 v.ownBlock) : KeepsFrom n W (W1.setCell ⟨lb, 0, none⟩ u) := by
  have g1 := World.grownBy_alloc W tmp none
  refine ⟨Nat.le_trans g1.size (Nat.le_trans hg.size (grown_set W1 lb 0 u).size), fun k o _ hk ho => ?_⟩
  have h1 := (g1.block k (lt_of_block hk) (by simp)).trans hk
  have h2 : W1.heap[k]? = some o := (hg.block k (lt_of_block h1) fun e => by
    obtain ⟨_, _, c, fr, h3⟩ := own_u64 hown e.symm
    rw [h3] at hk; cases hk; cases ho).trans h1
  refine ((grown_set W1 lb 0 u).block k (lt_of_block h2) fun e => ?_).trans h2
  injection e with e
  subst e
  rw [show W.heap[k]? = _ from hv] at hk
  cases hk; cases ho
theorem al_box {W W1 : World} {tmp : Obj} {v : Value} {base lb : Nat} {xs : List Nat} (hv : Boxed W lb 27 v) (hown : OwnW W base v xs) (hg : (W.alloc tmp).grownBy W1 v.ownBlock) : Boxed W1 lb 27 v := by
  have g1 := World.grownBy_alloc W tmp none
  have h1 : (W.alloc tmp).heap[lb]? = some (.cells #[v] 27 (0, 0)) := (g1.block lb (lt_of_block hv) (by simp)).trans hv
  refine (hg.block lb (lt_of_block h1) fun e => ?_).trans h1
  obtain ⟨_, _, c, fr, h3⟩ := own_u64 hown e.symm
  rw [show W.heap[lb]? = _ from hv] at h3
  injection h3 with h3
  injection h3 with _ h3 _
  exact absurd h3 (by decide)
theorem al_keep {W W1 : World} {tmp : Obj} {v v' : Value} {base lb n0 : Nat} {xs ys : List Nat} (hv : Boxed W lb 27 v) (hown : OwnW W base v xs) (hg : (W.alloc tmp).grownBy W1 v.ownBlock) (hl : v'.ownBlock = v.ownBlock ∨ v'.ownBlock = some (W.heap.size + 1)) (hown' : OwnW W1 base v' ys) (hb : n0 ≤ base) (hb2 : n0 ≤ W.heap.size) (hlb : n0 ≤ lb) : TkKeep n0 lb W (W1.setCell ⟨lb, 0, none⟩ v') ∧ Boxed (W1.setCell ⟨lb, 0, none⟩ v') lb 27 v' ∧ OwnW (W1.setCell ⟨lb, 0, none⟩ v') base v' ys := by
  have g1 := World.grownBy_alloc W tmp none
  have g2 := grown_set W1 lb 0 v'
  have hne : v.ownBlock ≠ some lb := fun e => by
    obtain ⟨_, _, c, fr, h3⟩ := own_u64 hown e
    rw [show W.heap[lb]? = _ from hv] at h3
    injection h3 with h3
    injection h3 with _ h3 _
    exact absurd h3 (by decide)
  have hlbW := lt_of_block hv
  have h1 : (W.alloc tmp).heap[lb]? = some (.cells #[v] 27 (0, 0)) := (g1.block lb hlbW (by simp)).trans hv
  have h2 : W1.heap[lb]? = some (.cells #[v] 27 (0, 0)) := (hg.block lb (lt_of_block h1) fun e => hne e.symm).trans h1
  have h3 : Boxed (W1.setCell ⟨lb, 0, none⟩ v') lb 27 v' := by
    unfold Boxed
    rw [heap_setCell_same h2 v']; rfl
  refine ⟨⟨?_, fun b hb2' hn hr => ?_, fun b hb => ?_⟩, h3, ?_⟩
  · have q1 : Below n0 W W1 := ((Below.refl n0 W).alloc hb2 tmp).grown hg (by rw [World.size_alloc]; omega) (fun k e => Nat.le_trans hb (own_u64 hown e).1)
    exact q1.setCell (p := ⟨lb, 0, none⟩) hlb v'
  · obtain ⟨c, t, fr, hb2'⟩ := hb2'
    have h4 := (g1.block b (lt_of_block hb2') (by simp)).trans hb2'
    have h5 := (hg.block b (lt_of_block h4) fun e => hr ⟨v, hv.cell, e.symm⟩).trans h4
    exact ((g2.block b (lt_of_block h5) fun e => hn (by injection e)).trans h5).trans hb2'.symm
  · obtain ⟨u, h4, h5⟩ := hb
    rw [show (W1.setCell ⟨lb, 0, none⟩ v').cell? ⟨lb, 0, none⟩ = some v' from h3.cell] at h4
    injection h4 with h4
    subst h4
    rcases hl with e | e
    · exact .inl ⟨v, hv.cell, by rw [← e]; exact h5⟩
    · rw [h5] at e
      injection e with e
      have h6 := (own_u64 hown' h5).2.1
      exact .inr ⟨by omega, Nat.lt_of_lt_of_le h6 g2.size⟩
  · refine World.ownsRow.kept hown' g2 (.inr fun e => ?_)
    obtain ⟨_, _, c, fr, h6⟩ := own_u64 hown' e
    rw [h2] at h6
    injection h6 with h6
    injection h6 with _ h6 _
    exact absurd h6 (by decide)
/-- What After's loop holds. -/
structure AfI (w : World) (pre : List Nat) (W : World) : Prop where
  none_ : pre = []
  res1 : Boxed W w.heap.size 23 (.int .u64 0)
  res2 : Boxed W (w.heap.size + 1) 4 (.bool false)
  below : Below w.heap.size w W
/-- .. and has left. -/
structure AfX (w : World) (Tl : List Nat) (c : Code) (pre : List Nat) (W : World) : Prop where
  jump : c = .ret
  one : pre.length = 1
  res1 : ∀ x, pre = [x] → Boxed W w.heap.size 23 (.int .u64 (atL Tl x : Nat))
  res2 : Boxed W (w.heap.size + 1) 4 (.bool true)
  below : Below w.heap.size w W
theorem boxed_past {A C : World} {row : Option Nat} {b n : Nat} {t : TypeId} {v : Value} (h : Boxed A b t v) (hg : A.grownBy C row) (hr : ∀ r, row = some r → n ≤ r) (hb : b < n) : Boxed C b t v :=
  (hg.block b (lt_of_block h) fun e => by have := hr b e.symm; omega).trans h
theorem AfI.rests (w : World) (n lb : Nat) (hn : w.heap.size + 2 ≤ n) : Rests lb n (AfI w) := fun s A C row hs hg hr =>
  ⟨hs.none_, boxed_past hs.res1 hg (fun r e => (hr r e).1) (by omega), boxed_past hs.res2 hg (fun r e => (hr r e).1) (by omega), hs.below.grown hg hs.below.size (fun k e => by have := (hr k e).1; omega)⟩
theorem AfX.rests (w : World) (n lb : Nat) (Tl : List Nat) (hn : w.heap.size + 2 ≤ n) (c : Code) : Rests lb n (AfX w Tl c) := fun s A C row hs hg hr =>
  ⟨hs.jump, hs.one, fun x e => boxed_past (hs.res1 x e) hg (fun r e => (hr r e).1) (by omega), boxed_past hs.res2 hg (fun r e => (hr r e).1) (by omega), hs.below.grown hg hs.below.size (fun k e => by have := (hr k e).1; omega)⟩
set_option maxHeartbeats 4000000 in
theorem tafter_in (h : Thinks w T M R B D ws l) (hB : Bed ws l z F) (hT : Tame z F S) (ht : TreeOf (txSee ws l) rkN (txSee ws l 32) S) (hlen : S.length ≤ 1000000) (s o : Nat) :
    CallsIn Fence.wide 6 Tryz.prog 61 #[.pointer (some ⟨T, 0, none⟩), .int .u64 s, .int .u64 o] w fun e w' => e = .returned (.tuple #[.int .u64 (atL (gtL z s o S) 0 : Nat), .bool (decide (0 < (gtL z s o S).length))]) ∧ w.grownBy w' none := by
  have hbh : ∀ V : World, CallsIn Fence.wide 5 Tryz.prog 92 #[.agg #[.pointer (some ⟨T, 0, none⟩)], .agg #[.int .u64 s, .int .u64 o]] V _ := fun V => (callsIn_wide (n := 5)).2 (behind_any T s o V)
  have hg0 : w.grownBy ((w.alloc (.cells #[.int .u64 0] 23)).alloc (.cells #[.bool false] 4)) none := grown_trans (World.grownBy_alloc _ _ _) (World.grownBy_alloc _ _ _)
  have h1 : ((w.alloc (.cells #[.int .u64 0] 23)).alloc (.cells #[.bool false] 4)).heap[w.heap.size]? = some (.cells #[.int .u64 0] 23 (0, 0)) := (Below.heap_alloc _ _ _ (by simp)).trans (heap_alloc_new' w _)
  have h2 : ((w.alloc (.cells #[.int .u64 0] 23)).alloc (.cells #[.bool false] 4)).heap[w.heap.size + 1]? = some (.cells #[.bool false] 4 (0, 0)) := by
    have := heap_alloc_new' (w.alloc (.cells #[.int .u64 0] 23)) (.cells #[.bool false] 4)
    rwa [World.size_alloc] at this
  have hsz0 : ((w.alloc (.cells #[.int .u64 0] 23)).alloc (.cells #[.bool false] 4)).heap.size = w.heap.size + 2 := by simp
  obtain ⟨Tl, eTl⟩ : ∃ Tl, gtL z s o S = Tl := ⟨_, rfl⟩
  rw [eTl]
  refine callsIn_of_wp_marks Tryz.func61 rfl trivial ?_ rfl
  simp only [Tryz.ntmps61, List.size_toArray, List.length_cons, List.length_nil, Nat.reduceAdd, Nat.reduceSub, Array.replicate_succ, Array.replicate_zero, List.push_toArray, List.append_toArray, List.nil_append, List.cons_append]
  gi_wp2_with (first | (refine ⟨trivial, ?_⟩; gi_at_call 92; (with_reducible refine (hbh _).mono ?_); rintro e w2 ⟨rfl, rfl⟩))
  obtain ⟨W1, hW1⟩ : ∃ W1, (w.alloc (.cells #[.int .u64 0] 23)).alloc (.cells #[.bool false] 4) = W1 := ⟨_, rfl⟩
  rw [hW1] at hg0 h1 h2 hsz0 ⊢
  have hgA : W1.grownBy ((W1.alloc (.cells #[.pointer (some ⟨T, 0, none⟩)] 126)).alloc (.cells #[.int .u64 s, .int .u64 o] 131)) none := grown_trans (World.grownBy_alloc _ _ _) (World.grownBy_alloc _ _ _)
  have hbw : ((W1.alloc (.cells #[.pointer (some ⟨T, 0, none⟩)] 126)).alloc (.cells #[.int .u64 s, .int .u64 o] 131)).heap[w.heap.size + 2]? = some (.cells #[.pointer (some ⟨T, 0, none⟩)] 126 (0, 0)) := by
    have := heap_alloc_new' W1 (.cells #[.pointer (some ⟨T, 0, none⟩)] 126)
    rw [hsz0] at this
    exact (Below.heap_alloc _ _ _ (by simp; omega)).trans this
  have hbk : ((W1.alloc (.cells #[.pointer (some ⟨T, 0, none⟩)] 126)).alloc (.cells #[.int .u64 s, .int .u64 o] 131)).heap[w.heap.size + 3]? = some (.cells #[.int .u64 s, .int .u64 o] 131 (0, 0)) := by
    have := heap_alloc_new' (W1.alloc (.cells #[.pointer (some ⟨T, 0, none⟩)] 126)) (.cells #[.int .u64 s, .int .u64 o] 131)
    rw [World.size_alloc, hsz0] at this
    exact this
  have hszA : ((W1.alloc (.cells #[.pointer (some ⟨T, 0, none⟩)] 126)).alloc (.cells #[.int .u64 s, .int .u64 o] 131)).heap.size = w.heap.size + 4 := by simp [hsz0]
  have k1 := two_held1 h1 hgA
  have k2 := two_held1 h2 hgA
  obtain ⟨W0, hW0⟩ : ∃ W0, (W1.alloc (.cells #[.pointer (some ⟨T, 0, none⟩)] 126)).alloc (.cells #[.int .u64 s, .int .u64 o] 131) = W0 := ⟨_, rfl⟩
  rw [hW0] at hgA hbw hbk hszA k1 k2 ⊢
  have hG := grown_trans hg0 hgA
  have hno : ∀ b, ¬ RowAt (w.heap.size + 1) W0 b := fun b ⟨u, q1, q2⟩ => by
    rw [cell_of_one k2] at q1
    injection q1 with q1
    subst q1
    simp [Value.ownBlock] at q2
  have hseq := behind1_tells h hB hT ht hlen s o (w.heap.size + 2) (w.heap.size + 3) (w.heap.size + 1) (grown_below hG) hbw hbk (by omega) (by omega) (by omega) (fun b hb => absurd hb (hno b))
  replace hseq : TellsG 5 116 #[.pointer (some ⟨w.heap.size + 2, 0, none⟩), .pointer (some ⟨w.heap.size + 3, 0, none⟩)] (fun x => #[.int .u64 (atL (gtL z s o S) x : Nat)]) (gtL z s o S).length (w.heap.size + 1) w.heap.size W0 := hseq
  rw [eTl] at hseq
  clear h1 h2 hg0 hsz0 hW1 hW0 hbh h hB hT ht hbw hbk hno eTl hgA
  refine range_tells (by decide) (gf := 116) (cb := #[.pointer (some ⟨w.heap.size + 2, 0, none⟩), .pointer (some ⟨w.heap.size + 3, 0, none⟩)]) rfl (enters_of Tryz.func116 (by kernel_rfl) rfl) hseq (Below.refl _ _) hG.size (by omega) (fun _ => rfl) (AfI w) (AfX w Tl) (AfI.rests w _ _ (by omega)) (AfX.rests w _ _ _ (by omega)) ⟨rfl, k1, k2, grown_below hG⟩
    (fun x => { tmps := #[.pointer (some ⟨T, 0, none⟩), .int .u64 s, .int .u64 o, undef, undef, undef, .pointer (some ⟨w.heap.size, 0, none⟩), .pointer (some ⟨w.heap.size + 1, 0, none⟩), .int .u64 (atL Tl x : Nat), .pointer (some ⟨T, 0, none⟩), .agg #[.pointer (some ⟨T, 0, none⟩)], .int .u64 s, .int .u64 o, .agg #[.int .u64 s, .int .u64 o], .func (.func 116) #[] #[.pointer (some ⟨w.heap.size + 2, 0, none⟩), .pointer (some ⟨w.heap.size + 3, 0, none⟩)], .int .u64 (atL Tl x : Nat), undef], defers := [] }) ?assign ?body ?done ?stop
  case assign =>
    intro yl x W K hK
    gi_wp2
    exact hK
  case body =>
    rintro yl pre x W hI hlt
    have c1 := hI.res1.cell
    have f1 := hI.res1.frozen
    have c2 := hI.res2.cell
    have f2 := hI.res2.frozen
    have hp := hI.none_
    subst hp
    gi_wp2
    have q1 := (hI.res1.set (.int .u64 (atL Tl x : Nat))).kept (grown_set _ (w.heap.size + 1) 0 (.bool true)) (by simp)
    have q2 := (hI.res2.kept (grown_set _ w.heap.size 0 (.int .u64 (atL Tl x : Nat))) (by simp)).set (.bool true)
    exact ⟨((KeepsOthers.setCell _ _ _).trans (KeepsOthers.setCell _ _ _)).from _, ⟨rfl, rfl, fun y e => by (have e2 : x = y := by simpa using e); subst e2; exact q1, q2, (hI.below.setCell (p := ⟨w.heap.size, 0, none⟩) (Nat.le_refl _) _).setCell (p := ⟨w.heap.size + 1, 0, none⟩) (Nat.le_succ _) _⟩⟩
  case done =>
    rintro D2 W hD hI hK
    have hN : Tl = [] := by
      have := congrArg List.length hI.none_
      simp at this
      exact List.length_eq_zero_iff.1 (by simpa using this)
    subst hN
    have c1 := hI.res1.cell
    have f1 := hI.res1.frozen
    have c2 := hI.res2.cell
    have f2 := hI.res2.frozen
    gi_wp2
    have hK2 := ((KeepsOthers.setCell W ⟨w.heap.size, 0, none⟩ (.int .u64 0)).trans (KeepsOthers.setCell _ ⟨w.heap.size + 1, 0, none⟩ (.bool false))).same D2 _ hK rfl
    have b1 := (hI.res1.set (.int .u64 0)).kept (grown_set _ (w.heap.size + 1) 0 (.bool false)) (by simp)
    have b2 := (hI.res2.kept (grown_set _ w.heap.size 0 (.int .u64 0)) (by simp)).set (.bool false)
    have hBB := (hI.below.setCell (p := ⟨w.heap.size, 0, none⟩) (Nat.le_refl _) (.int .u64 0)).setCell (p := ⟨w.heap.size + 1, 0, none⟩) (Nat.le_succ _) (.bool false)
    obtain ⟨W2, hW2⟩ : ∃ W2, (W.setCell ⟨w.heap.size, 0, none⟩ (.int .u64 0)).setCell ⟨w.heap.size + 1, 0, none⟩ (.bool false) = W2 := ⟨_, rfl⟩
    rw [hW2] at hK2 b1 b2 hBB ⊢
    have d1 := (b1.kept (grownBy_putObj' W2 D2 (.deferred none)) (by simp; omega)).cell
    have d2 := (b2.kept (grownBy_putObj' W2 D2 (.deferred none)) (by simp; omega)).cell
    refine ⟨by simp, .inl ⟨_, _, rfl, run_takeDeferred hK2, ?_⟩⟩
    refine ⟨.tuple #[.int .u64 0, .bool false], by simp [results, Tryz.results61, go_sem, d1, d2], rfl, below_grown (hBB.trans (belowK_b (w := w) (Nat.le_refl _) W2 D2 _ _ (by omega) hK2 rfl rfl))⟩
  case stop =>
    rintro D2 c m W hD hm hX hK
    obtain rfl := hX.jump
    have hm1 : m = 1 := by simpa using hX.one
    subst hm1
    have hr1 := hX.res1 0 rfl
    have hr2 := hX.res2
    have hN : decide (0 < Tl.length) = true := decide_eq_true hm
    gi_wp2
    have d1 := (hr1.kept (grownBy_putObj' W D2 (.deferred none)) (by simp; omega)).cell
    have d2 := (hr2.kept (grownBy_putObj' W D2 (.deferred none)) (by simp; omega)).cell
    refine ⟨by simp, .inl ⟨_, _, rfl, run_takeDeferred hK, ?_⟩⟩
    refine ⟨.tuple #[.int .u64 (atL Tl 0 : Nat), .bool true], by simp [results, Tryz.results61, go_sem, d1, d2], by rw [hN], below_grown (hX.below.trans (belowK_b (w := w) (Nat.le_refl _) W D2 _ _ (by omega) hK rfl rfl))⟩
theorem tafter_any (h : Thinks w T M R B D ws l) (hB : Bed ws l z F) (hT : Tame z F S) (ht : TreeOf (txSee ws l) rkN (txSee ws l 32) S) (hlen : S.length ≤ 1000000) (s o : Nat) :
    Calls Tryz.prog 61 #[.pointer (some ⟨T, 0, none⟩), .int .u64 s, .int .u64 o] w fun e w' => e = .returned (.tuple #[.int .u64 (atL (gtL z s o S) 0 : Nat), .bool (decide (0 < (gtL z s o S).length))]) ∧ w.grownBy w' none := callsIn_wide.1 (tafter_in h hB hT ht hlen s o)
end
end Go.Proofs.YtoamlkljfmgomaaGreat

/-
  Layer 6's plain answer Lay, over a segment that is used whole.
  Conditions: the plain Tx is a formatted segment's of 4800 bytes, of which all are used; the pieces lie in memory; there are 20 at most.
-/
namespace Go.Proofs.YtoamlkljfmgomaaGreat
open Go.RowKit
set_option linter.unusedVariables false
set_option linter.unusedSimpArgs false

/-- what Lay makes of so many pieces more, from place k and off on -/
def layG (A B C : Nat → Nat) : Nat → Nat → List (Nat × Nat) → Nat → List (Nat × Nat)
  | 0, _, l, off => layB (fmt48 4800) l off (4800 - off) (packN (4800 - off) false (0 : Nat))
  | m + 1, k, l, off =>
    if 4800 < off + (48 + 16 * (A k % 8)) + 48 then layB (fmt48 4800) l off (4800 - off) (packN (4800 - off) false (0 : Nat))
    else if B k % 10 = 0 then layG A B C m (k + 1) (layB (fmt48 4800) l off (48 + 16 * (A k % 8)) (packN (48 + 16 * (A k % 8)) false (0 : Nat))) (off + (48 + 16 * (A k % 8)))
    else layG A B C m (k + 1) (txStore (fmt48 4800) (layB (fmt48 4800) l off (48 + 16 * (A k % 8)) (packN (48 + 16 * (A k % 8)) true ((B k % 10 - 1 : Nat) : Int))) (off + 8) (C k % (48 + 16 * (A k % 8) - 39))) (off + (48 + 16 * (A k % 8)))
/-- what Lay makes of so many pieces -/
def layZ (A B C : Nat → Nat) (n : Nat) : List (Nat × Nat) := layG A B C n 0 [] 3776
section
variable {A B C : Nat → Nat} {n k off s u : Nat} {l Z : List (Nat × Nat)}
theorem layG_over (h : layG A B C (n - k) k l off = Z) (hk : k < n) (es : 48 + 16 * (A k % 8) = s) (hb : 4800 < off + s + 48) {s2 : Nat} (e2 : 4800 - off = s2) : layB (fmt48 4800) l off s2 (packN s2 false (0 : Nat)) = Z := by
  rw [← h, show n - k = (n - (k + 1)) + 1 by omega]
  unfold layG
  rw [es, if_pos hb, e2]
theorem layG_end (h : layG A B C (n - n) n l off = Z) {s2 : Nat} (e2 : 4800 - off = s2) : layB (fmt48 4800) l off s2 (packN s2 false (0 : Nat)) = Z := by
  rw [← h, Nat.sub_self]
  unfold layG
  rw [e2]
theorem layG_free (h : layG A B C (n - k) k l off = Z) (hk : k < n) (es : 48 + 16 * (A k % 8) = s) (hb : ¬ 4800 < off + s + 48) (hB : B k % 10 = 0) : layG A B C (n - (k + 1)) (k + 1) (layB (fmt48 4800) l off s (packN s false (0 : Nat))) (off + s) = Z := by
  rw [show n - k = (n - (k + 1)) + 1 by omega] at h
  unfold layG at h
  rw [es, if_neg hb, if_pos hB] at h
  exact h
theorem layG_used (h : layG A B C (n - k) k l off = Z) (hk : k < n) (es : 48 + 16 * (A k % 8) = s) (hb : ¬ 4800 < off + s + 48) (hB : ¬ B k % 10 = 0) (eu : B k % 10 - 1 = u) {d v : Nat} (ed : s - 39 = d) (ev : C k % d = v) : layG A B C (n - (k + 1)) (k + 1) (txStore (fmt48 4800) (layB (fmt48 4800) l off s (packN s true (u : Nat))) (off + 8) v) (off + s) = Z := by
  rw [show n - k = (n - (k + 1)) + 1 by omega] at h
  unfold layG at h
  rw [es, if_neg hb, if_neg hB, eu, ed, ev] at h
  exact h
end
/-- What holds at the head of Lay's loop. -/
structure LzRel (G : Nat → List (Nat × Nat) → Nat → Prop) (w : World) (base : Nat) (wv : Value) (k off : Nat) (wr : World) : Prop where
  is : ∃ l n pv, (n ≤ k ∧ (k ≤ 6 → n = k ∧ off ≤ 3776 + 160 * k)) ∧ LayP (fmt48 4800) l off n ∧ off + 48 ≤ 4800 ∧ RTx wr base wv pv (fmt48 4800) l ∧ wr.heap[w.heap.size]? = some (.cells #[wv, pv] 54 (0, 0)) ∧ Hid (G k l off)
  since : w.grownBy wr none
  res : wr.heap[w.heap.size + 1]? = some (.cells #[.slice none 0 0, .slice none 0 0] 54 (0, 0))
end Go.Proofs.YtoamlkljfmgomaaGreat

/-
  The plain answer of layer 7: Size, less, Turned.
  Conditions: the numbers lie in memory, or are the call's own; they are at most a million.
-/
namespace Go.Proofs.YtoamlkljfmgomaaGreat
open Go.RowKit
set_option linter.unusedVariables false
set_option linter.unusedSimpArgs false
set_option maxRecDepth 100000

theorem wpList_append_num {w2 : World} {ops : Array Oper} {rest : List Oper} {o : Oper} {a : Act} {Q : Exit → Act → World → Prop} (hgd : o.guard = none) (s x : Operand)
    (ho : o.op = .call { callee := .builtin .append, args := #[s, x], argTypes := #[27, 27] })
    (base : Nat) (v : Value) (xs : List Nat) (hs : a.eval s = v) (hown : OwnW w2 base v xs) (y : Nat)
    (hx : a.eval x = .slice (some ⟨w2.heap.size, 0, none⟩) 1 1) (hn : xs.length ≤ 10000000) (hbase : base ≤ w2.heap.size)
    (h : ∀ v' w', OwnW w' base v' (xs ++ [y]) → w2.grownBy w' v.ownBlock → (v'.ownBlock = v.ownBlock ∨ v'.ownBlock = some (w2.heap.size + 1)) → wpList Tryz.prog ops Q rest (a.put o.dst v') w') :
    wpList Tryz.prog ops Q (o :: rest) a (w2.alloc (.cells #[.int .u64 (y : Nat)] 23)) := by
  obtain ⟨i0, hi, hz0, hz1, hz2⟩ := info_parts info_u64
  refine wpList_append_own_at _ hgd s x 27 ho base 23 i0 (.int .u64 0) 1 8 Tryz.underlying27 hi hz0 hz1 hz2 rfl (by decide) v xs.length (cellsU xs) hs (World.ownsRow.alloc hown _) ⟨w2.heap.size, 0, none⟩ 1 1 [.int .u64 (y : Nat)] hx rfl (cell_one_new _ _ _) (by simp [Value.oneCell']) (by unfold maxLen; omega) (by omega) (by rw [World.size_alloc]; omega) fun v' w' h1 h2 _ h4 => h v' w' ?_ (grown_trans (grown_any (World.grownBy_alloc _ _ none) _) h2) (by rw [World.size_alloc] at h4; exact h4)
  unfold OwnW
  have e1 : cellsU (xs ++ [y]) = cellsU xs ++ [.int .u64 (y : Nat)] := by simp [cellsU]
  rw [e1, List.length_append]
  exact h1
/-- an empty row of the call's own -/
theorem own_empty (w : World) (base : Nat) (hb : base ≤ w.heap.size) : OwnW (w.alloc (.cells #[] 23)) base (.slice (some ⟨w.heap.size, 0, none⟩) 0 0) [] :=
  ⟨rfl, .inr ⟨_, 0, #[], rfl, hb, heap_alloc_new' _ _, Nat.le_refl _, by unfold maxLen; omega, rfl, rfl⟩⟩
section
variable {w : World} {base : Nat} {wv pv : Value} {ws : List Nat} {l : List (Nat × Nat)}
end
end Go.Proofs.YtoamlkljfmgomaaGreat

/-
  What the statements of layer 7 begin with: a formatted segment of 4800 bytes, in which blocks are laid, and where the free ones of these are (laid).
  Conditions: the pieces lie in memory.
-/
namespace Go.Proofs.YtoamlkljfmgomaaGreat
open Go.RowKit
set_option linter.unusedVariables false
set_option linter.unusedSimpArgs false

/-- What laid tells. -/
def Laid7W (w : World) (n : Nat) (e : Ending) (w' : World) : Prop :=
  ∃ l N, Laid7 l N ∧ N ≤ n + 1 ∧ ∃ B D T M R wv pv fv, e = .returned (.tuple #[.pointer (some ⟨T, 0, none⟩), .agg #[wv, pv], fv]) ∧ Txs w w' T M R B D (fmt48 4800) l ∧ RTx w' w.heap.size wv pv (fmt48 4800) l ∧ OwnW w' w.heap.size fv (freeN (txSee (fmt48 4800) l) N) ∧ (∀ g, wv.ownBlock = some g → R ≠ some g) ∧ ∀ g, fv.ownBlock = some g → R ≠ some g
structure Laid7F (ws : List Nat) (l : List (Nat × Nat)) (N : Nat) : Prop where
  heap : Heap ws l (blks (txSee ws l) N) 0
  free : FreeL (freeN (txSee ws l) N) ∧ N ≤ 1000000
theorem laid7_facts {l : List (Nat × Nat)} {N : Nat} (h : Laid7 l N) : Laid7F (fmt48 4800) l N := by
  have hN := walks_small (ws := fmt48 4800) (by rw [fmt48_len]; decide) h.chk h.walks
  refine ⟨⟨.inr ⟨h.chk, N, true, h.walks, ?_, ?_⟩, by rw [blks_len]; exact hN⟩, h.frees.1, hN⟩
  · unfold wkL; rw [if_pos rfl]
  · unfold wkE; rw [if_pos rfl]
end Go.Proofs.YtoamlkljfmgomaaGreat

/-
  The tree of a Tx that is new, and what else the caller has: what each call of the package leaves of both.
  Conditions: as said at each.
-/
namespace Go.Proofs.YtoamlkljfmgomaaGreat
open Go.RowKit
set_option linter.unusedVariables false
set_option linter.unusedSimpArgs false

/-- A Tx that is new since w0, over a segment in which the blocks F are free. -/
def TB (w0 w : World) (T : Nat) (R : Option Nat) (ws : List Nat) (z : Nat → Nat) (F : List Nat) : Prop :=
  ∃ M B D l, Txs w0 w T M R B D ws l ∧ Bed ws l z F
/-- .. and the tree of the blocks L is in it. -/
def TW (w0 w : World) (T : Nat) (R : Option Nat) (ws : List Nat) (z : Nat → Nat) (F L : List Nat) : Prop :=
  ∃ M B D l, Txs w0 w T M R B D ws l ∧ Bed ws l z F ∧ TreeIs (txSee ws l) z F L
section
variable {w0 w w' w2 : World} {T : Nat} {R R' R2 : Option Nat} {ws : List Nat} {z : Nat → Nat} {F L K : List Nat} {off base : Nat} {v : Value} {xs : List Nat} {la : Option Addr} {c : Nat}
theorem TB.later (h : TB w0 w T R ws z F) (hg : w.grownBy w' none) : TB w0 w' T R ws z F := by
  obtain ⟨M, B, D, l, h1, h2⟩ := h
  exact ⟨M, B, D, l, h1.later hg, h2⟩
theorem TW.later (h : TW w0 w T R ws z F L) (hg : w.grownBy w' none) : TW w0 w' T R ws z F L := by
  obtain ⟨M, B, D, l, h1, h2, h3⟩ := h
  exact ⟨M, B, D, l, h1.later hg, h2, h3⟩
theorem TW.since (h : TW w0 w T R ws z F L) : w0.grownBy w none := by
  obtain ⟨M, B, D, l, h1, h2, h3⟩ := h
  exact h1.since
theorem TB.since (h : TB w0 w T R ws z F) : w0.grownBy w none := by
  obtain ⟨M, B, D, l, h1, h2⟩ := h
  exact h1.since
theorem TW.perm (h : TW w0 w T R ws z F L) (hp : L.Perm K) : TW w0 w T R ws z F K := by
  obtain ⟨M, B, D, l, h1, h2, h3⟩ := h
  exact ⟨M, B, D, l, h1, h2, h3.perm hp⟩
theorem TW.nodup (h : TW w0 w T R ws z F L) : L.Nodup := by
  obtain ⟨M, B, D, l, h1, h2, h3⟩ := h
  exact h3.nodup
theorem TW.sub (h : TW w0 w T R ws z F L) : ∀ x, x ∈ L → x ∈ F := by
  obtain ⟨M, B, D, l, h1, h2, h3⟩ := h
  exact h3.sub
theorem TW.free (h : TW w0 w T R ws z F L) : FreeL F := by
  obtain ⟨M, B, D, l, h1, h2, h3⟩ := h
  exact h3.free
theorem TB.free (h : TB w0 w T R ws z F) : FreeL F := by
  obtain ⟨M, B, D, l, h1, h2⟩ := h
  exact h2.free
theorem tw_insert (h : TW w0 w T R ws z F L) (ho : off ∈ F) (hn : off ∉ L) :
    Calls Tryz.prog 72 #[.pointer (some ⟨T, 0, none⟩), .int .u64 off] w fun e w' => e = .returned (.tuple #[]) ∧ ∃ R', TW w0 w' T R' ws z F (L ++ [off]) ∧ Keep w R w' R' := by
  obtain ⟨M, B, D, l, h1, h2, h3⟩ := h
  refine (tinsert_any h1.tx h2 h3 ho hn).mono ?_
  rintro e w' ⟨rfl, l', ht, hB, hI, _⟩
  obtain ⟨R', h4, h5⟩ := step_keep h1 ht
  exact ⟨rfl, R', ⟨M, B, D, l', h4, hB, hI⟩, h5⟩
theorem tw_delete (h : TW w0 w T R ws z F L) (ho : off ∈ F) (hn : off ∈ L) (hp : (L.filter fun a => decide (a ≠ off)).Perm K) :
    Calls Tryz.prog 37 #[.pointer (some ⟨T, 0, none⟩), .int .u64 off] w fun e w' => e = .returned (.bool true) ∧ ∃ R', TW w0 w' T R' ws z F K ∧ Keep w R w' R' := by
  obtain ⟨M, B, D, l, h1, h2, h3⟩ := h
  refine (tdelete_yes h1.tx h2 h3 ho hn).mono ?_
  rintro e w' ⟨rfl, l', ht, hB, hI, _⟩
  obtain ⟨R', h4, h5⟩ := step_keep h1 ht
  exact ⟨rfl, R', ⟨M, B, D, l', h4, hB, hI.perm hp⟩, h5⟩
theorem tw_stays (h : TW w0 w T R ws z F L) (ho : off ∈ F) (hn : off ∉ L) :
    Calls Tryz.prog 37 #[.pointer (some ⟨T, 0, none⟩), .int .u64 off] w fun e w' => e = .returned (.bool false) ∧ w.grownBy w' none := by
  obtain ⟨M, B, D, l, h1, h2, h3⟩ := h
  exact tdelete_no h1.tx h2 h3 ho hn
theorem tw_check (h : TW w0 w T R ws z F L) (hp : L.Perm K) (hm : WordsAt w la K) {n : Nat} (hn : K.length = n) (hlen : n ≤ 1000000) :
    Calls Tryz.prog 34 #[.pointer (some ⟨T, 0, none⟩), .slice la n c] w fun e w' => e = .returned (.bool true) ∧ w.grownBy w' none := by
  subst hn
  obtain ⟨M, B, D, l, h1, h2, h3⟩ := h
  have h4 := h3.perm hp
  refine (tcheck_any (c := c) h1.tx h2 h4.sub h4.nodup hm hlen).mono ?_
  rintro e w' ⟨hg, b, rfl, hb⟩
  rw [hb.2 h4.tree]
  exact ⟨rfl, hg⟩
theorem tw_check_nil (h : TW w0 w T R ws z F L) (hn : L ≠ []) :
    Calls Tryz.prog 34 #[.pointer (some ⟨T, 0, none⟩), .slice none 0 0] w fun e w' => e = .returned (.bool false) ∧ w.grownBy w' none := by
  obtain ⟨M, B, D, l, h1, h2, h3⟩ := h
  refine (tcheck_any (L := []) (c := 0) (la := none) h1.tx h2 (by simp) (by simp) ⟨fun h => by simp at h⟩ (by simp)).mono ?_
  rintro e w' ⟨hg, b, rfl, hb⟩
  refine ⟨?_, hg⟩
  cases b with
  | false => rfl
  | true =>
    have h4 := (hb.1 rfl).none
    have h5 := h3.tree
    rw [h4] at h5
    have h6 := congrArg List.length h5.zero
    rw [srtK_length] at h6
    exact absurd (List.eq_nil_of_length_eq_zero h6) hn
theorem tw_root (h : TW w0 w T R ws z F L) :
    Calls Tryz.prog 67 #[.pointer (some ⟨T, 0, none⟩)] w fun e w' => (∃ r : Nat, e = .returned (.int .u64 r) ∧ (L = [] → r = 0) ∧ ∀ x, L = [x] → r = x) ∧ w.grownBy w' none := by
  obtain ⟨M, B, D, l, h1, h2, h3⟩ := h
  refine (hroot_any h1.tx).mono ?_
  rintro e w' ⟨rfl, hg⟩
  have ht := h3.tree
  refine ⟨⟨_, rfl, ?_, ?_⟩, hg⟩
  · rintro rfl
    exact ht.none
  · rintro x rfl
    have e1 : srtK z [x] = [x] := rfl
    rw [e1] at ht
    by_cases e : txSee ws l 32 = 0
    · rw [e] at ht
      have := ht.zero
      simp at this
    · have := ht.mem e
      simpa using this
theorem tw_root_nil (h : TW w0 w T R ws z F []) :
    Calls Tryz.prog 67 #[.pointer (some ⟨T, 0, none⟩)] w fun e w' => e = .returned (.int .u64 0) ∧ w.grownBy w' none := by
  refine (tw_root h).mono ?_
  rintro e w' ⟨⟨r, rfl, h1, _⟩, hg⟩
  rw [h1 rfl]
  exact ⟨rfl, hg⟩
theorem tw_root_one {x : Nat} (h : TW w0 w T R ws z F [x]) :
    Calls Tryz.prog 67 #[.pointer (some ⟨T, 0, none⟩)] w fun e w' => e = .returned (.int .u64 x) ∧ w.grownBy w' none := by
  refine (tw_root h).mono ?_
  rintro e w' ⟨⟨r, rfl, _, h1⟩, hg⟩
  rw [h1 x rfl]
  exact ⟨rfl, hg⟩
theorem short_of : ∀ (n : Nat) {L : List Nat}, L.Nodup → (∀ x, x ∈ L → x < n) → L.length ≤ n
  | 0, L, _, h => by
    cases L with
    | nil => exact Nat.le_refl _
    | cons a L => exact absurd (h a (by simp)) (Nat.not_lt_zero _)
  | n + 1, L, hn, h => by
    by_cases hm : n ∈ L
    · have h1 := (List.perm_cons_erase hm).length_eq
      have h2 := short_of n (L := L.erase n) (hn.erase n) fun x hx => by
        have h3 := (hn.mem_erase_iff).1 hx
        have h4 := h x h3.2
        have h5 := h3.1
        omega
      simp only [List.length_cons] at h1
      omega
    · have := short_of n hn fun x hx => by
        have h4 := h x hx
        have h5 : x ≠ n := fun e => hm (e ▸ hx)
        omega
      omega
theorem FreeL.few (h : FreeL F) (hs : ∀ x, x ∈ L → x ∈ F) (hn : L.Nodup) : L.length ≤ 4800 :=
  short_of 4800 hn fun x hx => by
    have := h.on x (hs x hx)
    omega
theorem tw_after (h : TW w0 w T R ws z F L) (s o : Nat) :
    Calls Tryz.prog 61 #[.pointer (some ⟨T, 0, none⟩), .int .u64 s, .int .u64 o] w fun e w' => e = .returned (.tuple #[.int .u64 (atL (gtL z s o (srtK z L)) 0 : Nat), .bool (decide (0 < (gtL z s o (srtK z L)).length))]) ∧ w.grownBy w' none := by
  obtain ⟨M, B, D, l, h1, h2, h3⟩ := h
  exact tafter_any h1.tx h2 h3.tame h3.tree (by rw [srtK_length]; have := h3.free.few h3.sub h3.nodup; omega) s o
end
/-- What laid tells, shorter: z tells the sizes of the blocks. -/
def Laid7T (w : World) (n : Nat) (e : Ending) (w' : World) : Prop :=
  ∃ l N T R wv pv fv, Laid7 l N ∧ N ≤ n + 1 ∧ e = .returned (.tuple #[.pointer (some ⟨T, 0, none⟩), .agg #[wv, pv], fv]) ∧ TB w w' T R (fmt48 4800) (fun x => tS (txSee (fmt48 4800) l x)) (freeN (txSee (fmt48 4800) l) N) ∧ KW w' R w.heap.size wv (fmt48 4800) ∧ OwnP w' w.heap.size pv l ∧ KW w' R w.heap.size fv (freeN (txSee (fmt48 4800) l) N)
end Go.Proofs.YtoamlkljfmgomaaGreat

/-
  What the statements of layer 7 ask first: a tree of one block, and of none (awake).
  No condition.
-/
namespace Go.Proofs.YtoamlkljfmgomaaGreat
open Go.RowKit
set_option linter.unusedVariables false
set_option linter.unusedSimpArgs false

theorem pieces_none (w : World) : PiecesAt w none 0 (fun _ => 0) (fun _ => 0) (fun _ => 0) := ⟨fun _ => ⟨by decide, by decide, by decide⟩, fun h => by omega⟩
theorem offs_first (f : Nat → Nat) : offs f 0 = 3776 := rfl
theorem laid_nil {l : List (Nat × Nat)} {N : Nat} (h : Laid7 l N) (hN : N ≤ 0 + 1) : freeN (txSee (fmt48 4800) l) N = [3776] ∧ tS (txSee (fmt48 4800) l 3776) = 1024 := by
  have h0 := h.frees.2
  have hN1 : N = 1 := by
    rcases Nat.lt_or_ge N 1 with h1 | h1
    · obtain rfl : N = 0 := by omega
      simp [freeN] at h0
    · omega
  subst hN1
  have he := h.ends
  obtain ⟨j, hj, hu⟩ := h.free
  obtain rfl : j = 0 := by omega
  rw [offs_first] at hu
  have hb := (h.walks.lt 0 (by omega)).2
  rw [offs_first] at hb
  refine ⟨?_, ?_⟩
  · unfold freeN freeN
    rw [offs_first, hu]
    rfl
  · have h48 : offs (txSee (fmt48 4800) l) 1 = 3776 + usz (txSee (fmt48 4800) l 3776) := rfl
    rw [he] at h48
    unfold tS
    rw [if_pos hb.1.1]
    omega
theorem words_one (w : World) (x : Nat) : WordsAt (w.alloc (.cells #[.int .u64 (x : Nat)] 23)) (some ⟨w.heap.size, 0, none⟩) [x] := ⟨fun _ => ⟨_, 0, rfl, by rw [World.size_alloc]; omega, fun i hi => by
  have h1 := heap_alloc_new' w (.cells #[.int .u64 (x : Nat)] 23)
  simp only [List.length_cons, List.length_nil] at hi
  obtain rfl : i = 0 := by omega
  unfold World.cell?
  simp only [Nat.zero_add]
  rw [h1]
  rfl⟩⟩
theorem gt_one {z : Nat → Nat} (hz : z 3776 = 1024) : gtL z 48 0 (srtK z [3776]) = [3776] := by
  have e1 : srtK z [3776] = [3776] := rfl
  rw [e1]
  unfold gtL
  simp [hz, ltK]
end Go.Proofs.YtoamlkljfmgomaaGreat

/-
  What the statements of layer 7 begin with, as they need it.
  Conditions: the pieces lie in memory.
-/
namespace Go.Proofs.YtoamlkljfmgomaaGreat
open Go.RowKit
set_option linter.unusedVariables false
set_option linter.unusedSimpArgs false

/-- what the plain answers ask of words, and of what is thought over them -/
structure RefOk (ws : List Nat) (l : List (Nat × Nat)) : Prop where
  words : ws.length ≤ 131072
  puts : l.length ≤ 1000000
  lt : ∀ q, txSee ws l q < 18446744073709551616
/-- What laid tells of a call that began at w. -/
structure LaidG (w w' : World) (T : Nat) (R : Option Nat) (ws : List Nat) (l : List (Nat × Nat)) (wv pv fv : Value) (F : List Nat) : Prop where
  tree : TB w w' T R ws (fun x => tS (txSee ws l x)) F
  free : KW w' R w.heap.size fv F
  words : KW w' R w.heap.size wv ws
  puts : OwnP w' w.heap.size pv l
  ok : RefOk ws l
  pos : 0 < F.length
  few : F.length ≤ 4800
theorem lie_at {w : World} {base : Nat} {a : Option Addr} {n c : Nat} {l : List Nat} (h : OwnW w base (.slice a n c) l) : WordsAt w a l := by
  obtain ⟨a', c', e, h'⟩ := h.lie
  cases e
  exact h'
theorem KW.lie {w : World} {R : Option Nat} {base : Nat} {a : Option Addr} {n c : Nat} {l : List Nat} (h : KW w R base (.slice a n c) l) : WordsAt w a l := lie_at h.1
theorem KW.own {w : World} {R : Option Nat} {base : Nat} {v : Value} {l : List Nat} (h : KW w R base v l) : OwnW w base v l := h.1
/-- a row that is newer than the Tx -/
theorem KW.new {w0 w w' : World} {T : Nat} {R : Option Nat} {ws : List Nat} {z : Nat → Nat} {F L xs : List Nat} {v : Value} {base : Nat} (h : TW w0 w T R ws z F L) (ho : OwnW w' base v xs) (hb : w.heap.size ≤ base) : KW w' R base v xs := by
  refine ⟨ho, fun g hg e => ?_⟩
  obtain ⟨M, B, D, l, h1, _, _⟩ := h
  have h2 := h1.tx.ltR e
  have h3 := (World.ownsRow.lt ho g hg).1
  omega
theorem KW.cap {w : World} {R : Option Nat} {base : Nat} {a : Option Addr} {n c : Nat} {l : List Nat} (h : KW w R base (.slice a n c) l) : n ≤ c := by
  obtain ⟨a', c', e, _⟩ := h.1.lie
  rcases h.1.2 with h9 | ⟨_, _, _, h9, _, _, h10, _⟩
  · injection e with _ e _
    have := h9.2
    omega
  · injection e with _ e _
    injection h9 with _ _ h9
    omega
theorem drop_at {w : World} {b off m q c : Nat} {K : List Nat} (h : WordsAt w (some ⟨b, off, none⟩) K) (hm : K.length = m) (hq : q < m) (hc : m ≤ c) : WordsAt w (if c = q + 1 then some ⟨b, off, none⟩ else some ⟨b, off + (q + 1), none⟩) (K.drop (q + 1)) := by
  split
  · exact ⟨fun hn => by simp at hn; omega⟩
  · exact h.drop (q + 1)
theorem drop_get {K : List Nat} {k y : Nat} (hk : k < K.length) (hy : K.getD k 0 = y) : K.drop k = y :: K.drop (k + 1) := by
  rw [List.drop_eq_getElem_cons hk]
  congr 1
  rw [← hy, List.getD_eq_getElem?_getD, List.getElem?_eq_getElem hk]
  rfl
/-- a row of the caller's is turned: the tree stands -/
theorem TW.row {w0 w w' : World} {T : Nat} {R : Option Nat} {ws : List Nat} {z : Nat → Nat} {F L J : List Nat} {v : Value} {base : Nat} (X : TW w0 w T R ws z F L) (K : KW w R base v J) (hb : w0.heap.size ≤ base) (hg : w.grownBy w' v.ownBlock) : TW w0 w' T R ws z F L := by
  obtain ⟨M, B, D, l, h1, h2, h3⟩ := X
  refine ⟨M, B, D, l, ⟨h1.tx.turned (Turned.of_grown hg) (fun k hk => ?_), grown_step h1.since hg (fun i hi => .inl (Nat.le_trans hb (World.ownsRow.lt K.1 i hi).1)), h1.newT, h1.newM, h1.newR, h1.newB, h1.newD⟩, h2, h3⟩
  obtain ⟨_, cur, hbk⟩ := row_block K.1 hk
  obtain ⟨tv, k1, _⟩ := h1.tx.head
  obtain ⟨Da, k2, _⟩ := h1.tx.map
  obtain ⟨es, clock, k2⟩ := map_block k2
  refine ⟨?_, fun e => ne_type hbk h1.tx.seg.head (by decide) e, fun e => ne_type hbk h1.tx.seg.data (by decide) e⟩
  rintro (e | e | e)
  · exact ne_type hbk k1 (by decide) e
  · exact ne_map hbk k2 e
  · exact K.2 k hk e
/-- one more is put to such a row -/
theorem TW.app {w0 w w' : World} {T : Nat} {R : Option Nat} {ws : List Nat} {z : Nat → Nat} {F L J F' : List Nat} {v v' fv : Value} {base y : Nat} (X : TW w0 w T R ws z F L) (K : KW w R base v J) (hb : w0.heap.size ≤ base) (KF : KW w R w0.heap.size fv F') (hne : ∀ g, fv.ownBlock = some g → v.ownBlock ≠ some g)
    (hg : w.grownBy w' v.ownBlock) (hl : v'.ownBlock = v.ownBlock ∨ v'.ownBlock = some (w.heap.size + 1)) (ho : OwnW w' base v' (J ++ [y])) : TW w0 w' T R ws z F L ∧ KW w' R base v' (J ++ [y]) ∧ KW w' R w0.heap.size fv F' := by
  refine ⟨X.row K hb hg, ⟨ho, fun g e e2 => ?_⟩, ⟨World.ownsRow.kept KF.1 hg ?_, KF.2⟩⟩
  · rcases hl with h | h
    · exact K.2 g (by rw [← h]; exact e) e2
    · rw [h] at e
      obtain ⟨M, B, D, l, h1, _, _⟩ := X
      have h2 := h1.tx.ltR e2
      injection e with e
      omega
  · by_cases e : fv.ownBlock = none
    · exact .inl e
    · obtain ⟨g, hg2⟩ := Option.ne_none_iff_exists'.1 e
      refine .inr fun e2 => ?_
      rw [hg2] at e2
      exact hne g hg2 (e2.symm ▸ rfl)
theorem filter_out {L : List Nat} {y : Nat} (h : y ∉ L) : L.filter (fun a => decide (a ≠ y)) = L :=
  List.filter_eq_self.2 (by intro a ha; rw [decide_eq_true_eq]; intro e; exact h (e ▸ ha))
theorem filter_less {L : List Nat} {y : Nat} (h : y ∈ L) : (L.filter fun a => decide (a ≠ y)).length < L.length := by
  have h1 := List.length_filter_le (fun a => decide (a ≠ y)) L
  rcases Nat.lt_or_ge (L.filter fun a => decide (a ≠ y)).length L.length with h2 | h2
  · exact h2
  · have h3 := (List.length_filter_eq_length_iff (p := fun a => decide (a ≠ y)) (l := L)).1 (by omega) y h
    simp at h3
theorem filter_step {L : List Nat} {y k : Nat} (hk : k < L.length) {x : Nat} (hx : L.getD k 0 = x) : (L.take (k + 1)).filter (fun a => decide (a ≠ y)) = (L.take k).filter (fun a => decide (a ≠ y)) ++ if x = y then [] else [x] := by
  have h1 : L.take (k + 1) = L.take k ++ [x] := by
    rw [List.take_add_one, ← hx, List.getD_eq_getElem?_getD, List.getElem?_eq_getElem hk]
    rfl
  rw [h1, List.filter_append]
  congr 1
  by_cases e : x = y
  · rw [if_pos e]; simp [e]
  · rw [if_neg e]; simp [e]
end Go.Proofs.YtoamlkljfmgomaaGreat
