/-
  Rows of blocks: a part of a row; append of blocks that lie in memory.
  No condition.
-/
import Derived.Test.YtoamlkljfmgomaaGreatCarG
import Derived.Test.YtoamlkljfmgomaaGreatLedB
namespace Go.Proofs.YtoamlkljfmgomaaGreat
open Go.RowKit
set_option linter.unusedVariables false
set_option linter.unusedSimpArgs false
set_option maxRecDepth 100000

theorem gets_take {l : List Blk} {n i : Nat} (h : i < n) : (l.take n).getD i default = l.getD i default := by
  rw [List.getD_eq_getElem?_getD, List.getElem?_take, if_pos h, ← List.getD_eq_getElem?_getD]
theorem gets_drop {l : List Blk} {n i : Nat} : (l.drop n).getD i default = l.getD (n + i) default := by
  rw [List.getD_eq_getElem?_getD, List.getElem?_drop, ← List.getD_eq_getElem?_getD]
theorem BlksAt.take {w : World} {la : Option Addr} {l : List Blk} (h : BlksAt w la l) (n : Nat) : BlksAt w la (l.take n) where
  cells := fun hn => by
    rw [List.length_take] at hn
    obtain ⟨b, off, h1, h2, h3⟩ := h.cells (by omega)
    refine ⟨b, off, h1, h2, fun i hi => ?_⟩
    rw [List.length_take] at hi
    have := h3 i (by omega)
    unfold gO gS gU gW gN at this ⊢
    rw [gets_take (by omega)]
    exact this
theorem BlksAt.drop {w : World} {b off : Nat} {l : List Blk} (h : BlksAt w (some ⟨b, off, none⟩) l) (n : Nat) : BlksAt w (some ⟨b, off + n * 5, none⟩) (l.drop n) where
  cells := fun hn => by
    rw [List.length_drop] at hn
    obtain ⟨b', off', h1, h2, h3⟩ := h.cells (by omega)
    injection h1 with h1
    injection h1 with e1 e2
    subst e1 e2
    refine ⟨b, off + n * 5, rfl, h2, fun i hi => ?_⟩
    rw [List.length_drop] at hi
    have := h3 (n + i) (by omega)
    unfold gO gS gU gW gN at this ⊢
    rw [gets_drop, show off + n * 5 + i * 5 = off + (n + i) * 5 by omega]
    exact this
theorem cellsB_app (a b : List Blk) : cellsB (a ++ b) = cellsB a ++ cellsB b := by simp [cellsB, List.flatMap_append]
theorem run_append_empty {P : Program} {w : World} (base : Nat) (t ty e : TypeId) (i : TypeInfo) (size c : Nat) (ht : P.underlying t = some (.slice e)) (hi : P.info? e = some i)
    (v : Value) (n : Nat) (xs : List Value) (hown : w.ownsRow base e size v n xs) :
    (Builtin.append_ #[t, t] ty #[v, .slice none 0 c]).run P w = .ok v w := by
  rcases hown.2 with ⟨rfl, rfl⟩ | ⟨g, cap, cur, rfl, _, _, hnc, _⟩
  · simp [Builtin.append_, run_underlying ht, sizeOf, typeInfo, hi, Builtin.lenOf, Builtin.firstCells]
  · simp [Builtin.append_, run_underlying ht, sizeOf, typeInfo, hi, Builtin.lenOf, Builtin.firstCells, hnc, storeCells]
/-- 'append(l, k...)': blocks that lie in memory. -/
theorem wpList_append_blks {w2 : World} {base n m c : Nat} {v : Value} {l k : List Blk} {la : Option Addr} (hown : OwnB w2 base 43 v l) (hp : BlksAt w2 la k) (hn : l.length = n) (hk : k.length = m) (hm : n + m ≤ 1000000) (hbase : base ≤ w2.heap.size)
    {ops : Array Oper} {rest : List Oper} {o : Oper} {a : Act} {Q : Exit → Act → World → Prop} (hgd : o.guard = none) (s x : Operand)
    (ho : o.op = .call { callee := .builtin .append, args := #[s, x], argTypes := #[26, 26] })
    (hs : a.eval s = v) (hx : a.eval x = .slice la m c)
    (h : ∀ v' w', OwnB w' base 43 v' (l ++ k) → w2.grownBy w' v.ownBlock → (v'.ownBlock = v.ownBlock ∨ v'.ownBlock = some w2.heap.size) → wpList Tryz.prog ops Q rest (a.put o.dst v') w') :
    wpList Tryz.prog ops Q (o :: rest) a w2 := by
  subst hn hk
  obtain ⟨i0, hi, hz0, hz1, hz2⟩ := info_parts info_rblk
  rcases la with _ | ad
  · have hm0 : k = [] := by
      cases k with
      | nil => rfl
      | cons b r =>
        obtain ⟨_, _, hb, _⟩ := hp.cells (by simp)
        cases hb
    subst hm0
    refine wpList_plain hgd fun K hK => ?_
    have hrun := run_append_empty (P := Tryz.prog) (w := w2) base 26 o.type 43 i0 5 c Tryz.underlying26 hi v l.length (cellsB l) hown
    unfold Oper.wp
    simp only [List.length_nil] at hx
    simp [execOp, ho, resolve, invoke, builtin, hs, hx, hrun, Result.andThen]
    exact hK _ _ (h v w2 (by simpa using hown) (grown_refl _ _) (.inl rfl))
  · refine wpList_append_own_at _ hgd s x 26 ho base 43 i0 (.agg #[.int .u64 0, .int .u64 0, .bool false, .int .i64 0, .int .u64 0]) 5 40 Tryz.underlying26 hi hz0 hz1 hz2 rfl (by decide) v l.length (cellsB l) hs hown ad k.length c (cellsB k) hx (cellsB_len k) ?_ (cellsB_one k) (by unfold maxLen; omega) (by omega) hbase fun v' w' h1 h2 _ h4 => h v' w' (by unfold OwnB; rw [cellsB_app, List.length_append]; exact h1) h2 h4
    intro j u hj
    have hjm : j < k.length * 5 := by
      rcases Nat.lt_or_ge j (k.length * 5) with h' | h'
      · exact h'
      · rw [List.getElem?_eq_none (by rw [cellsB_len]; exact h')] at hj; cases hj
    obtain ⟨b, off, hb, _, hcs⟩ := hp.cells (by omega)
    injection hb with hb
    subst hb
    have hadd : (⟨b, off, none⟩ : Addr).add j = ⟨b, off + j, none⟩ := by unfold Addr.add; split <;> simp_all
    rw [hadd]
    obtain ⟨c0, c1, c2, c3, c4⟩ := hcs (j / 5) (by omega)
    have hat := cellsB_at k (j / 5) (j % 5) (by omega) (Nat.mod_lt _ (by decide))
    rw [show j / 5 * 5 + j % 5 = j by omega] at hat
    rw [hat] at hj
    unfold gO at c0
    unfold gS at c1
    unfold gU at c2
    unfold gW at c3
    unfold gN at c4
    have h5 := Nat.mod_lt j (show 0 < 5 by decide)
    rcases (show j % 5 = 0 ∨ j % 5 = 1 ∨ j % 5 = 2 ∨ j % 5 = 3 ∨ j % 5 = 4 by omega) with e | e | e | e | e <;> rw [e] at hj <;> simp [Blk.row] at hj
    · rw [show off + j / 5 * 5 = off + j by omega] at c0; rw [c0, ← hj]; rfl
    · rw [show off + j / 5 * 5 + 1 = off + j by omega] at c1; rw [c1, ← hj]; rfl
    · rw [show off + j / 5 * 5 + 2 = off + j by omega] at c2; rw [c2, ← hj]; rfl
    · rw [show off + j / 5 * 5 + 3 = off + j by omega] at c3; rw [c3, ← hj]; rfl
    · rw [show off + j / 5 * 5 + 4 = off + j by omega] at c4; rw [c4, ← hj]; rfl
/-- a block in a block of its own -/
theorem blk_at {V V' : World} {b : Nat} (k : Blk) (hb : V.heap.size = b) (hg : (V.alloc (.cells k.row.toArray 43)).grownBy V' none) : BlksAt V' (some ⟨b, 0, none⟩) [k] := by
  subst hb
  have h : V'.heap[V.heap.size]? = some (.cells k.row.toArray 43 (0, 0)) := (hg.block _ (by simp) (by simp)).trans (heap_alloc_new' V _)
  refine ⟨fun _ => ⟨_, 0, rfl, lt_of_block h, fun i hi => ?_⟩⟩
  obtain rfl : i = 0 := by simpa using hi
  unfold World.cell?
  simp only [h]
  exact ⟨rfl, rfl, rfl, rfl, rfl⟩
theorem ownB_none {V : World} {base b : Nat} (hb : V.heap.size = b) (h : base ≤ b) : OwnB (V.alloc (.cells #[] 43)) base 43 (.slice (some ⟨b, 0, none⟩) 0 0) [] := by
  subst hb
  exact World.ownsRow_lit (base := base) (e := 43) (size := 5) V #[] 0 h (by decide) rfl
/-- What the walk of Take holds: the row that grows, and the boxes of the heap, of what is told, and of a block. -/
structure TkB (w0 : World) (base hb rb bb : Nat) (hcs rcs bcs : Array Value) (W : World) (v : Value) (l : List Blk) : Prop where
  own : OwnB W base 43 v l
  hbx : W.heap[hb]? = some (.cells hcs 30 (0, 0))
  rbx : W.heap[rb]? = some (.cells rcs 30 (0, 0))
  bbx : W.heap[bb]? = some (.cells bcs 43 (0, 0))
  since : w0.grownBy W none
  lo : hb < base ∧ rb < base ∧ bb < base ∧ w0.heap.size ≤ base ∧ base ≤ W.heap.size
/-- .. and another block's box -/
structure TkU (w0 : World) (base hb rb bb ub : Nat) (hcs rcs bcs ucs : Array Value) (W : World) (v : Value) (l : List Blk) : Prop where
  tk : TkB w0 base hb rb bb hcs rcs bcs W v l
  ubx : W.heap[ub]? = some (.cells ucs 43 (0, 0))
  no : v.ownBlock ≠ some ub
section
variable {w0 W W' : World} {base hb rb bb ub : Nat} {hcs rcs bcs ucs : Array Value} {v v' : Value} {l k : List Blk}
theorem TkB.size (h : TkB w0 base hb rb bb hcs rcs bcs W v l) : base ≤ W.heap.size := h.lo.2.2.2.2
theorem TkB.later (h : TkB w0 base hb rb bb hcs rcs bcs W v l) (hg : W.grownBy W' none) : TkB w0 base hb rb bb hcs rcs bcs W' v l :=
  ⟨h.own.later hg, (hg.block _ (lt_of_block h.hbx) (by simp)).trans h.hbx, (hg.block _ (lt_of_block h.rbx) (by simp)).trans h.rbx, (hg.block _ (lt_of_block h.bbx) (by simp)).trans h.bbx, grown_trans h.since hg, h.lo.1, h.lo.2.1, h.lo.2.2.1, h.lo.2.2.2.1, Nat.le_trans h.size hg.size⟩
theorem TkB.nr (h : TkB w0 base hb rb bb hcs rcs bcs W v l) : ¬ W.heap.size = rb ∧ ¬ rb = W.heap.size ∧ ¬ W.heap.size = hb ∧ ¬ hb = W.heap.size := by
  have h1 := h.size
  have h2 := h.lo
  omega
theorem TkB.far (h : TkB w0 base hb rb bb hcs rcs bcs W v l) {q : Nat} (hq : q < base) : some q ≠ v.ownBlock := fun e => by
  have := (World.ownsRow.lt h.own q e.symm).1
  omega
theorem TkB.app (h : TkB w0 base hb rb bb hcs rcs bcs W v l) (ho : OwnB W' base 43 v' (l ++ k)) (hg : W.grownBy W' v.ownBlock) : TkB w0 base hb rb bb hcs rcs bcs W' v' (l ++ k) :=
  ⟨ho, (hg.block _ (lt_of_block h.hbx) (h.far h.lo.1)).trans h.hbx, (hg.block _ (lt_of_block h.rbx) (h.far h.lo.2.1)).trans h.rbx, (hg.block _ (lt_of_block h.bbx) (h.far h.lo.2.2.1)).trans h.bbx, grown_step h.since hg (fun i hi => .inl (Nat.le_trans h.lo.2.2.2.1 (World.ownsRow.lt h.own i hi).1)), h.lo.1, h.lo.2.1, h.lo.2.2.1, h.lo.2.2.2.1, Nat.le_trans h.size hg.size⟩
theorem TkB.used (h : TkB w0 base hb rb bb hcs rcs bcs W v l) : TkU w0 base hb rb bb W.heap.size hcs rcs bcs ucs (W.alloc (.cells ucs 43)) v l :=
  ⟨h.later (World.grownBy_alloc _ _ _), heap_alloc_new' _ _, fun e => by
    have := (World.ownsRow.lt h.own _ e).2
    omega⟩
theorem TkU.later (h : TkU w0 base hb rb bb ub hcs rcs bcs ucs W v l) (hg : W.grownBy W' none) : TkU w0 base hb rb bb ub hcs rcs bcs ucs W' v l :=
  ⟨h.tk.later hg, (hg.block _ (lt_of_block h.ubx) (by simp)).trans h.ubx, h.no⟩
theorem TkU.app (h : TkU w0 base hb rb bb ub hcs rcs bcs ucs W v l) (ho : OwnB W' base 43 v' (l ++ k)) (hg : W.grownBy W' v.ownBlock) (hv : v'.ownBlock = v.ownBlock ∨ v'.ownBlock = some W.heap.size) : TkU w0 base hb rb bb ub hcs rcs bcs ucs W' v' (l ++ k) :=
  ⟨h.tk.app ho hg, (hg.block _ (lt_of_block h.ubx) (fun e => h.no e.symm)).trans h.ubx, fun e => by
    rcases hv with h1 | h1
    · exact h.no (h1.symm.trans e)
    · rw [h1] at e
      injection e with e
      have := lt_of_block h.ubx
      omega⟩
theorem tk_start {w1 : World} (hg : w0.grownBy w1 none) (hx : w1.heap[hb]? = some (.cells hcs 30 (0, 0))) (hr : w1.heap[rb]? = some (.cells rcs 30 (0, 0))) : TkB w0 (w1.heap.size + 1) hb rb w1.heap.size hcs rcs bcs ((w1.alloc (.cells bcs 43)).alloc (.cells #[] 43)) (.slice (some ⟨w1.heap.size + 1, 0, none⟩) 0 0) [] :=
  ⟨ownB_none (by simp) (Nat.le_refl _), (Below.heap_alloc _ _ _ (by have := lt_of_block hx; simp; omega)).trans ((Below.heap_alloc _ _ _ (lt_of_block hx)).trans hx), (Below.heap_alloc _ _ _ (by have := lt_of_block hr; simp; omega)).trans ((Below.heap_alloc _ _ _ (lt_of_block hr)).trans hr), (Below.heap_alloc _ _ _ (by simp)).trans (heap_alloc_new' _ _), grown_trans hg (grown_trans (World.grownBy_alloc _ _ _) (World.grownBy_alloc _ _ _)), Nat.lt_succ_of_lt (lt_of_block hx), Nat.lt_succ_of_lt (lt_of_block hr), Nat.lt_succ_self _, Nat.le_succ_of_le hg.size, by simp⟩
/-- a heap's box, cell by cell -/
theorem ten_cells {w : World} {b : Nat} {x0 x1 x2 x3 x4 x5 x6 x7 x8 x9 : Value} {t : TypeId} (h : w.heap[b]? = some (.cells #[x0, x1, x2, x3, x4, x5, x6, x7, x8, x9] t (0, 0))) : (w.cell? ⟨b, 0, none⟩ = some x0 ∧ w.cell? ⟨b, 1, none⟩ = some x1 ∧ w.cell? ⟨b, 2, none⟩ = some x2 ∧ w.cell? ⟨b, 3, none⟩ = some x3 ∧ w.cell? ⟨b, 4, none⟩ = some x4 ∧ w.cell? ⟨b, 5, none⟩ = some x5 ∧ w.cell? ⟨b, 6, none⟩ = some x6 ∧ w.cell? ⟨b, 7, none⟩ = some x7 ∧ w.cell? ⟨b, 8, none⟩ = some x8 ∧ w.cell? ⟨b, 9, none⟩ = some x9) ∧ ∀ i, i < 10 → w.frozen? ⟨b, i, none⟩ = false := by
  refine ⟨⟨by simp [World.cell?, h], by simp [World.cell?, h], by simp [World.cell?, h], by simp [World.cell?, h], by simp [World.cell?, h], by simp [World.cell?, h], by simp [World.cell?, h], by simp [World.cell?, h], by simp [World.cell?, h], by simp [World.cell?, h]⟩, fun i _ => by simp [World.frozen?, h]⟩
theorem ten_put {w : World} {b : Nat} {x0 x1 x2 x3 x4 x5 x6 x7 x8 x9 y0 y1 y2 y3 y4 y5 y6 y7 y8 y9 : Value} {t : TypeId} (h : w.heap[b]? = some (.cells #[x0, x1, x2, x3, x4, x5, x6, x7, x8, x9] t (0, 0))) : ((((((((((w.setCell ⟨b, 0, none⟩ y0).setCell ⟨b, 1, none⟩ y1).setCell ⟨b, 2, none⟩ y2).setCell ⟨b, 3, none⟩ y3).setCell ⟨b, 4, none⟩ y4).setCell ⟨b, 5, none⟩ y5).setCell ⟨b, 6, none⟩ y6).setCell ⟨b, 7, none⟩ y7).setCell ⟨b, 8, none⟩ y8).setCell ⟨b, 9, none⟩ y9).heap[b]? = some (.cells #[y0, y1, y2, y3, y4, y5, y6, y7, y8, y9] t (0, 0)) ∧ w.grownBy ((((((((((w.setCell ⟨b, 0, none⟩ y0).setCell ⟨b, 1, none⟩ y1).setCell ⟨b, 2, none⟩ y2).setCell ⟨b, 3, none⟩ y3).setCell ⟨b, 4, none⟩ y4).setCell ⟨b, 5, none⟩ y5).setCell ⟨b, 6, none⟩ y6).setCell ⟨b, 7, none⟩ y7).setCell ⟨b, 8, none⟩ y8).setCell ⟨b, 9, none⟩ y9) (some b) := by
  have h0 : (w.setCell ⟨b, 0, none⟩ y0).heap[b]? = some (.cells #[y0, x1, x2, x3, x4, x5, x6, x7, x8, x9] t (0, 0)) := by rw [heap_setCell_same h y0]; rfl
  have h1 : ((w.setCell ⟨b, 0, none⟩ y0).setCell ⟨b, 1, none⟩ y1).heap[b]? = some (.cells #[y0, y1, x2, x3, x4, x5, x6, x7, x8, x9] t (0, 0)) := by rw [heap_setCell_same h0 y1]; rfl
  have h2 : (((w.setCell ⟨b, 0, none⟩ y0).setCell ⟨b, 1, none⟩ y1).setCell ⟨b, 2, none⟩ y2).heap[b]? = some (.cells #[y0, y1, y2, x3, x4, x5, x6, x7, x8, x9] t (0, 0)) := by rw [heap_setCell_same h1 y2]; rfl
  have h3 : ((((w.setCell ⟨b, 0, none⟩ y0).setCell ⟨b, 1, none⟩ y1).setCell ⟨b, 2, none⟩ y2).setCell ⟨b, 3, none⟩ y3).heap[b]? = some (.cells #[y0, y1, y2, y3, x4, x5, x6, x7, x8, x9] t (0, 0)) := by rw [heap_setCell_same h2 y3]; rfl
  have h4 : (((((w.setCell ⟨b, 0, none⟩ y0).setCell ⟨b, 1, none⟩ y1).setCell ⟨b, 2, none⟩ y2).setCell ⟨b, 3, none⟩ y3).setCell ⟨b, 4, none⟩ y4).heap[b]? = some (.cells #[y0, y1, y2, y3, y4, x5, x6, x7, x8, x9] t (0, 0)) := by rw [heap_setCell_same h3 y4]; rfl
  have h5 : ((((((w.setCell ⟨b, 0, none⟩ y0).setCell ⟨b, 1, none⟩ y1).setCell ⟨b, 2, none⟩ y2).setCell ⟨b, 3, none⟩ y3).setCell ⟨b, 4, none⟩ y4).setCell ⟨b, 5, none⟩ y5).heap[b]? = some (.cells #[y0, y1, y2, y3, y4, y5, x6, x7, x8, x9] t (0, 0)) := by rw [heap_setCell_same h4 y5]; rfl
  have h6 : (((((((w.setCell ⟨b, 0, none⟩ y0).setCell ⟨b, 1, none⟩ y1).setCell ⟨b, 2, none⟩ y2).setCell ⟨b, 3, none⟩ y3).setCell ⟨b, 4, none⟩ y4).setCell ⟨b, 5, none⟩ y5).setCell ⟨b, 6, none⟩ y6).heap[b]? = some (.cells #[y0, y1, y2, y3, y4, y5, y6, x7, x8, x9] t (0, 0)) := by rw [heap_setCell_same h5 y6]; rfl
  have h7 : ((((((((w.setCell ⟨b, 0, none⟩ y0).setCell ⟨b, 1, none⟩ y1).setCell ⟨b, 2, none⟩ y2).setCell ⟨b, 3, none⟩ y3).setCell ⟨b, 4, none⟩ y4).setCell ⟨b, 5, none⟩ y5).setCell ⟨b, 6, none⟩ y6).setCell ⟨b, 7, none⟩ y7).heap[b]? = some (.cells #[y0, y1, y2, y3, y4, y5, y6, y7, x8, x9] t (0, 0)) := by rw [heap_setCell_same h6 y7]; rfl
  have h8 : (((((((((w.setCell ⟨b, 0, none⟩ y0).setCell ⟨b, 1, none⟩ y1).setCell ⟨b, 2, none⟩ y2).setCell ⟨b, 3, none⟩ y3).setCell ⟨b, 4, none⟩ y4).setCell ⟨b, 5, none⟩ y5).setCell ⟨b, 6, none⟩ y6).setCell ⟨b, 7, none⟩ y7).setCell ⟨b, 8, none⟩ y8).heap[b]? = some (.cells #[y0, y1, y2, y3, y4, y5, y6, y7, y8, x9] t (0, 0)) := by rw [heap_setCell_same h7 y8]; rfl
  have h9 : ((((((((((w.setCell ⟨b, 0, none⟩ y0).setCell ⟨b, 1, none⟩ y1).setCell ⟨b, 2, none⟩ y2).setCell ⟨b, 3, none⟩ y3).setCell ⟨b, 4, none⟩ y4).setCell ⟨b, 5, none⟩ y5).setCell ⟨b, 6, none⟩ y6).setCell ⟨b, 7, none⟩ y7).setCell ⟨b, 8, none⟩ y8).setCell ⟨b, 9, none⟩ y9).heap[b]? = some (.cells #[y0, y1, y2, y3, y4, y5, y6, y7, y8, y9] t (0, 0)) := by rw [heap_setCell_same h8 y9]; rfl
  have g0 : w.grownBy (w.setCell ⟨b, 0, none⟩ y0) (some b) := grown_set _ _ _ _
  have g1 : w.grownBy ((w.setCell ⟨b, 0, none⟩ y0).setCell ⟨b, 1, none⟩ y1) (some b) := grown_trans g0 (grown_set _ _ _ _)
  have g2 : w.grownBy (((w.setCell ⟨b, 0, none⟩ y0).setCell ⟨b, 1, none⟩ y1).setCell ⟨b, 2, none⟩ y2) (some b) := grown_trans g1 (grown_set _ _ _ _)
  have g3 : w.grownBy ((((w.setCell ⟨b, 0, none⟩ y0).setCell ⟨b, 1, none⟩ y1).setCell ⟨b, 2, none⟩ y2).setCell ⟨b, 3, none⟩ y3) (some b) := grown_trans g2 (grown_set _ _ _ _)
  have g4 : w.grownBy (((((w.setCell ⟨b, 0, none⟩ y0).setCell ⟨b, 1, none⟩ y1).setCell ⟨b, 2, none⟩ y2).setCell ⟨b, 3, none⟩ y3).setCell ⟨b, 4, none⟩ y4) (some b) := grown_trans g3 (grown_set _ _ _ _)
  have g5 : w.grownBy ((((((w.setCell ⟨b, 0, none⟩ y0).setCell ⟨b, 1, none⟩ y1).setCell ⟨b, 2, none⟩ y2).setCell ⟨b, 3, none⟩ y3).setCell ⟨b, 4, none⟩ y4).setCell ⟨b, 5, none⟩ y5) (some b) := grown_trans g4 (grown_set _ _ _ _)
  have g6 : w.grownBy (((((((w.setCell ⟨b, 0, none⟩ y0).setCell ⟨b, 1, none⟩ y1).setCell ⟨b, 2, none⟩ y2).setCell ⟨b, 3, none⟩ y3).setCell ⟨b, 4, none⟩ y4).setCell ⟨b, 5, none⟩ y5).setCell ⟨b, 6, none⟩ y6) (some b) := grown_trans g5 (grown_set _ _ _ _)
  have g7 : w.grownBy ((((((((w.setCell ⟨b, 0, none⟩ y0).setCell ⟨b, 1, none⟩ y1).setCell ⟨b, 2, none⟩ y2).setCell ⟨b, 3, none⟩ y3).setCell ⟨b, 4, none⟩ y4).setCell ⟨b, 5, none⟩ y5).setCell ⟨b, 6, none⟩ y6).setCell ⟨b, 7, none⟩ y7) (some b) := grown_trans g6 (grown_set _ _ _ _)
  have g8 : w.grownBy (((((((((w.setCell ⟨b, 0, none⟩ y0).setCell ⟨b, 1, none⟩ y1).setCell ⟨b, 2, none⟩ y2).setCell ⟨b, 3, none⟩ y3).setCell ⟨b, 4, none⟩ y4).setCell ⟨b, 5, none⟩ y5).setCell ⟨b, 6, none⟩ y6).setCell ⟨b, 7, none⟩ y7).setCell ⟨b, 8, none⟩ y8) (some b) := grown_trans g7 (grown_set _ _ _ _)
  have g9 : w.grownBy ((((((((((w.setCell ⟨b, 0, none⟩ y0).setCell ⟨b, 1, none⟩ y1).setCell ⟨b, 2, none⟩ y2).setCell ⟨b, 3, none⟩ y3).setCell ⟨b, 4, none⟩ y4).setCell ⟨b, 5, none⟩ y5).setCell ⟨b, 6, none⟩ y6).setCell ⟨b, 7, none⟩ y7).setCell ⟨b, 8, none⟩ y8).setCell ⟨b, 9, none⟩ y9) (some b) := grown_trans g8 (grown_set _ _ _ _)
  exact ⟨h9, g9⟩
end
end Go.Proofs.YtoamlkljfmgomaaGreat
