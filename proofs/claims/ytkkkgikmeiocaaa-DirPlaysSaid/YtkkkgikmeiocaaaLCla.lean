/-
  Texts of one layer, one behind the other: memory, contracts of the functions, and what follows of them.
  Conditions: as each theorem says.
-/
import Derived.Shelf.RegionOpen
import Derived.Deep.QuietTactic
import Derived.BigQuiet
import Derived.Deep.LoopGhost
import Derived.Deep.RegionHeld3
import Derived.Test.YtkkkgikmeiocaaaLHea
import Derived.Test.YtkkkgikmeiocaaaLTxa
import Derived.StillTailTactics
import Derived.Test.YtkkkgikmeiocaaaLTxb
import Derived.RangeFuncCalls
import Derived.TacticsInMore
import Derived.OrdersIn
import Derived.Test.YtkkkgikmeiocaaaLSea
import Derived.Test.YtkkkgikmeiocaaaLTxc
import Derived.Maps.AppendAt
set_option linter.unusedVariables false
set_option linter.unusedSimpArgs false
namespace Go.Proofs.Ytkkkgikmeiocaaa
open Go.RowKit
set_option maxRecDepth 100000
theorem txs_first {w w' : World} {x y x' y' : Value} {t t2 : TypeId} (hg : ((w.alloc (.cells #[x, y] t)).alloc (.cells #[x', y'] t2)).grownBy w' none) :
    w'.heap[w.heap.size]? = some (.cells #[x, y] t (0, 0)) ∧ w'.heap[w.heap.size + 1]? = some (.cells #[x', y'] t2 (0, 0)) := by
  have h1 : (w.alloc (.cells #[x, y] t)).heap[w.heap.size]? = some (.cells #[x, y] t (0, 0)) := heap_alloc_new' _ _
  have h2 := ((World.grownBy_alloc (w.alloc (.cells #[x, y] t)) (.cells #[x', y'] t2) none).block _ (lt_of_block h1) (by simp)).trans h1
  have h3 := heap_alloc_new' (w.alloc (.cells #[x, y] t)) (.cells #[x', y'] t2)
  rw [World.size_alloc] at h3
  exact ⟨(hg.block _ (lt_of_block h2) (by simp)).trans h2, (hg.block _ (lt_of_block h3) (by simp)).trans h3⟩
theorem tx_cells {w : World} {b : Nat} {x y : Value} {t : TypeId} (h : w.heap[b]? = some (.cells #[x, y] t (0, 0))) : w.cell? ⟨b, 0, none⟩ = some x ∧ w.cell? ⟨b, 1, none⟩ = some y ∧ w.frozen? ⟨b, 0, none⟩ = false ∧ w.frozen? ⟨b, 1, none⟩ = false :=
  ⟨by simp [World.cell?, h], by simp [World.cell?, h], by simp [World.frozen?, h], by simp [World.frozen?, h]⟩
theorem tx_one {w w' : World} {x y : Value} {t : TypeId} (hg : (w.alloc (.cells #[x, y] t)).grownBy w' none) : w'.heap[w.heap.size]? = some (.cells #[x, y] t (0, 0)) := by
  have h1 : (w.alloc (.cells #[x, y] t)).heap[w.heap.size]? = some (.cells #[x, y] t (0, 0)) := heap_alloc_new' _ _
  exact (hg.block _ (lt_of_block h1) (by simp)).trans h1
section
variable {w : World} {base : Nat} {wv pv : Value} {ws : List Nat} {l : List (Nat × Nat)}
end
end Go.Proofs.Ytkkkgikmeiocaaa
namespace Go.Proofs.Ytkkkgikmeiocaaa
open Go.RowKit Go.Shelf
set_option maxRecDepth 100000
attribute [local go_sem] Oper.semAt_some
theorem info_int : (Try.prog.info? 3).map (fun i => (i.zero, i.size, i.bytes)) = some (some (.int .i64 0), 1, 8) := by kernel_rfl
def cellsI (l : List Nat) : List Value := l.map fun x => .int .i64 (x : Nat)
def OwnI (w : World) (base : Nat) (v : Value) (xs : List Nat) : Prop := w.ownsRow base 3 1 v xs.length (cellsI xs)
theorem OwnI.later {w w' : World} {base : Nat} {v : Value} {xs : List Nat} (h : OwnI w base v xs) (hg : w.grownBy w' none) : OwnI w' base v xs := own_kept h hg
theorem OwnI.mono {w : World} {base base' : Nat} {v : Value} {xs : List Nat} (h : OwnI w base v xs) (hb : base' ≤ base) : OwnI w base' v xs := World.ownsRow.mono h hb
theorem OwnI.at_ {w : World} {base g c : Nat} {ws : List Nat} (h : OwnI w base (.slice (some ⟨g, 0, none⟩) ws.length c) ws) (j : Nat) (hj : j < ws.length) : w.cell? ⟨g, j, none⟩ = some (.int .i64 (ws.getD j 0 : Nat)) := by
  have := World.ownsRow.cellAt h j (by omega)
  rw [this]
  simp [cellsI, List.getElem?_eq_getElem hj]
theorem OwnI.addr {w : World} {base : Nat} {v : Value} {ws : List Nat} (h : OwnI w base v ws) : ∃ a c g, v = .slice a ws.length c ∧ (0 < ws.length → a = some ⟨g, 0, none⟩) ∧ ∀ w', OwnI w' base v ws → ∀ j, j < ws.length → w'.cell? ⟨g, j, none⟩ = some (.int .i64 (ws.getD j 0 : Nat)) := by
  rcases h.2 with ⟨h1, h2⟩ | ⟨g, cap, cur, hv, _⟩
  · exact ⟨none, 0, 0, by rw [h1, h2], fun h => by omega, fun w' _ j hj => by omega⟩
  · exact ⟨_, cap, g, hv, fun _ => rfl, fun w' h' j hj => by rw [hv] at h'; exact OwnI.at_ h' j hj⟩
theorem iv_form {w : World} {base : Nat} {v : Value} {xs : List Nat} (h : OwnI w base v xs) : ∃ a n c, v = .slice a n c := by
  obtain ⟨a, c, g, h, _⟩ := h.addr
  exact ⟨a, _, c, h⟩
theorem OwnI.snoc {w : World} {base : Nat} {v : Value} {xs : List Nat} {y : Nat} (h : w.ownsRow base 3 1 v (xs.length + 1) (cellsI xs ++ [.int .i64 (y : Nat)])) : OwnI w base v (xs ++ [y]) := by
  unfold OwnI
  have e1 : cellsI (xs ++ [y]) = cellsI xs ++ [.int .i64 (y : Nat)] := by simp [cellsI]
  rw [e1, List.length_append]
  exact h
def StK (n tb : Nat) (p : Value) (A C : World) : Prop := Below n A C ∧ (Boxed A tb 25 p → Boxed C tb 25 p)
theorem StK.refl (n tb : Nat) (p : Value) (A : World) : StK n tb p A A := ⟨Below.refl _ _, id⟩
theorem StK.trans {n tb : Nat} {p : Value} {A C E : World} (h : StK n tb p A C) (k : StK n tb p C E) : StK n tb p A E := ⟨h.1.trans k.1, fun b => k.2 (h.2 b)⟩
theorem StK.put {n tb : Nat} {p : Value} {w0 : World} (hn : n ≤ w0.heap.size) (hb : tb < w0.heap.size) (W : World) (l : Nat) (o o' : Obj) (hl : w0.heap.size ≤ l) (h : W.heap[l]? = some o) (hc : o.isCells = false) (hw : o.isWalk = false) : StK n tb p W (W.putObj l o') :=
  ⟨belowK_b (w := w0) hn W l o o' hl h hc hw, fun b => by
    unfold Boxed at b ⊢
    rw [World.putObj_heap_other (by omega)]
    exact b⟩
theorem StK.grown {n tb : Nat} {p : Value} {A C : World} {row : Option Nat} (hn : n ≤ A.heap.size) (hg : A.grownBy C row) (hr : ∀ r, row = some r → n ≤ r ∧ r ≠ tb) : StK n tb p A C :=
  ⟨(Below.refl n A).grown hg hn (fun k e => (hr k e).1), fun b => b.kept hg (fun e => (hr tb e.symm).2 rfl)⟩
theorem own_int {base : Nat} {A : World} {v : Value} {xs : List Nat} {g : Nat} (h : OwnI A base v xs) (hg : v.ownBlock = some g) : base ≤ g ∧ g < A.heap.size ∧ ∃ c fr, A.heap[g]? = some (.cells c 3 fr) := by
  obtain ⟨_, cur, hb⟩ := row_block h hg
  exact ⟨(World.ownsRow.lt h g hg).1, (World.ownsRow.lt h g hg).2, cur, _, hb⟩
section
variable {w : World} {T M : Nat} {R : Option Nat} {B D : Nat} {ws : List Nat} {l : List (Nat × Nat)}
end
end Go.Proofs.Ytkkkgikmeiocaaa
namespace Go.Proofs.Ytkkkgikmeiocaaa
open Go.RowKit
set_option maxRecDepth 100000
theorem wpList_append_int {w2 : World} {ops : Array Oper} {rest : List Oper} {o : Oper} {a : Act} {Q : Exit → Act → World → Prop} (hgd : o.guard = none) (s x : Operand)
    (ho : o.op = .call { callee := .builtin .append, args := #[s, x], argTypes := #[92, 92] })
    (base : Nat) (v : Value) (xs : List Nat) (hs : a.eval s = v) (hown : OwnI w2 base v xs) (y : Nat)
    (hx : a.eval x = .slice (some ⟨w2.heap.size, 0, none⟩) 1 1) (hn : xs.length ≤ 10000000) (hbase : base ≤ w2.heap.size)
    (h : ∀ v' w', OwnI w' base v' (xs ++ [y]) → w2.grownBy w' v.ownBlock → wpList Try.prog ops Q rest (a.put o.dst v') w') :
    wpList Try.prog ops Q (o :: rest) a (w2.alloc (.cells #[.int .i64 (y : Nat)] 3)) := by
  obtain ⟨i0, hi, hz0, hz1, hz2⟩ := info_parts info_int
  exact wpList_append_own_at _ hgd s x 92 ho base 3 i0 (.int .i64 0) 1 8 Try.underlying92 hi hz0 hz1 hz2 rfl (by decide) v xs.length (cellsI xs) hs (World.ownsRow.alloc hown _) ⟨w2.heap.size, 0, none⟩ 1 1 [.int .i64 (y : Nat)] hx rfl (cell_one_new _ _ _) (by simp [Value.oneCell']) (by unfold maxLen; omega) (by omega) (by rw [World.size_alloc]; omega) fun v' w' h1 h2 _ h4 => h v' w' (OwnI.snoc h1) (grown_trans (grown_any (World.grownBy_alloc _ _ none) _) h2)
section
variable {w : World} {base : Nat} {wv pv : Value} {ws : List Nat} {l : List (Nat × Nat)}
end
end Go.Proofs.Ytkkkgikmeiocaaa
