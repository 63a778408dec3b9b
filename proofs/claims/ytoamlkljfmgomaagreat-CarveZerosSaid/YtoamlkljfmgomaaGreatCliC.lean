/-
  Package client: what 'states' hands back, as an iterator: it tells each client's State, in turn; the contract of All.
  Conditions: the Tx is nobody's, or stands in memory.
-/
import Derived.Test.YtoamlkljfmgomaaGreatCliB
import Derived.Test.YtoamlkljfmgomaaGreatLTx
namespace Go.Proofs.YtoamlkljfmgomaaGreat
open Go.RowKit Go.Shelf
set_option linter.unusedVariables false
set_option linter.unusedSimpArgs false
set_option maxRecDepth 100000
attribute [local go_sem] Oper.semAt_some

/-! ### rows of ints -/
theorem info_int : (Tryz.prog.info? 3).map (fun i => (i.zero, i.size, i.bytes)) = some (some (.int .i64 0), 1, 8) := by kernel_rfl
def cellsI (l : List Nat) : List Value := l.map fun x => .int .i64 (x : Nat)
def OwnI (w : World) (base : Nat) (v : Value) (xs : List Nat) : Prop := w.ownsRow base 3 1 v xs.length (cellsI xs)
theorem OwnI.later {w w' : World} {base : Nat} {v : Value} {xs : List Nat} (h : OwnI w base v xs) (hg : w.grownBy w' none) : OwnI w' base v xs := own_kept h hg
theorem OwnI.mono {w : World} {base base' : Nat} {v : Value} {xs : List Nat} (h : OwnI w base v xs) (hb : base' ≤ base) : OwnI w base' v xs := World.ownsRow.mono h hb
theorem OwnI.at_ {w : World} {base g c : Nat} {ws : List Nat} (h : OwnI w base (.slice (some ⟨g, 0, none⟩) ws.length c) ws) (j : Nat) (hj : j < ws.length) : w.cell? ⟨g, j, none⟩ = some (.int .i64 (ws.getD j 0 : Nat)) := by
  have := World.ownsRow.cellAt h j (by omega)
  rw [this]
  simp [cellsI, List.getElem?_eq_getElem hj]
theorem OwnI.addr {w : World} {base : Nat} {v : Value} {ws : List Nat} (h : OwnI w base v ws) : ∃ a c g, v = .slice a ws.length c ∧ (0 < ws.length → a = some ⟨g, 0, none⟩) ∧ ∀ w', OwnI w' base v ws → ∀ j, j < ws.length → w'.cell? ⟨g, j, none⟩ = some (.int .i64 (ws.getD j 0 : Nat)) := by
  rcases h.2 with ⟨h1, h2⟩ | ⟨g, cap, cur, hv, _⟩
  · exact ⟨none, 0, 0, by rw [h1, h2], fun h => by omega, fun w' _ j hj => by omega⟩
  · exact ⟨_, cap, g, hv, fun _ => rfl, fun w' h' j hj => by rw [hv] at h'; exact OwnI.at_ h' j hj⟩
theorem iv_form {w : World} {base : Nat} {v : Value} {xs : List Nat} (h : OwnI w base v xs) : ∃ a n c, v = .slice a n c := by
  obtain ⟨a, c, g, h, _⟩ := h.addr
  exact ⟨a, _, c, h⟩
theorem OwnI.snoc {w : World} {base : Nat} {v : Value} {xs : List Nat} {y : Nat} (h : w.ownsRow base 3 1 v (xs.length + 1) (cellsI xs ++ [.int .i64 (y : Nat)])) : OwnI w base v (xs ++ [y]) := by
  unfold OwnI
  have e1 : cellsI (xs ++ [y]) = cellsI xs ++ [.int .i64 (y : Nat)] := by simp [cellsI]
  rw [e1, List.length_append]
  exact h

/-! ### the iterator -/
/-- What a body that goes on keeps: what stood below n, and the box of the Tx. -/
def StK (n tb : Nat) (p : Value) (A C : World) : Prop := Below n A C ∧ (Boxed A tb 25 p → Boxed C tb 25 p)
theorem StK.refl (n tb : Nat) (p : Value) (A : World) : StK n tb p A A := ⟨Below.refl _ _, id⟩
theorem StK.trans {n tb : Nat} {p : Value} {A C E : World} (h : StK n tb p A C) (k : StK n tb p C E) : StK n tb p A E := ⟨h.1.trans k.1, fun b => k.2 (h.2 b)⟩
theorem StK.put {n tb : Nat} {p : Value} {w0 : World} (hn : n ≤ w0.heap.size) (hb : tb < w0.heap.size) (W : World) (l : Nat) (o o' : Obj) (hl : w0.heap.size ≤ l) (h : W.heap[l]? = some o) (hc : o.isCells = false) (hw : o.isWalk = false) : StK n tb p W (W.putObj l o') :=
  ⟨belowK_b (w := w0) hn W l o o' hl h hc hw, fun b => by
    unfold Boxed at b ⊢
    rw [World.putObj_heap_other (by omega)]
    exact b⟩
theorem StK.grown {n tb : Nat} {p : Value} {A C : World} {row : Option Nat} (hn : n ≤ A.heap.size) (hg : A.grownBy C row) (hr : ∀ r, row = some r → n ≤ r ∧ r ≠ tb) : StK n tb p A C :=
  ⟨(Below.refl n A).grown hg hn (fun k e => (hr k e).1), fun b => b.kept hg (fun e => (hr tb e.symm).2 rfl)⟩
/-! ### All -/
/-- the clients of a state -/
def ofState (st : Nat → Nat) (s : Nat) : List Nat := (List.range 8).filter fun x => decide (st x = s)
theorem ofState_len (st : Nat → Nat) (s : Nat) : (ofState st s).length ≤ 8 := Nat.le_trans (List.length_filter_le _ _) (by simp)
/-- What All's loop holds. -/
structure AllI (w : World) (st : Nat → Nat) (s : Nat) (pre : List Nat) (W : World) : Prop where
  row : ∃ v, Boxed W (w.heap.size + 1) 194 v ∧ OwnI W w.heap.size v (pre.filter fun x => decide (st x = s))
  key : Boxed W w.heap.size 23 (.int .u64 (s : Nat))
  below : Below w.heap.size w W
  big : w.heap.size + 3 ≤ W.heap.size
theorem own_int {base : Nat} {A : World} {v : Value} {xs : List Nat} {g : Nat} (h : OwnI A base v xs) (hg : v.ownBlock = some g) : base ≤ g ∧ g < A.heap.size ∧ ∃ c fr, A.heap[g]? = some (.cells c 3 fr) := by
  obtain ⟨_, cur, hb⟩ := row_block h hg
  exact ⟨(World.ownsRow.lt h g hg).1, (World.ownsRow.lt h g hg).2, cur, _, hb⟩
theorem AllI.own (w : World) (n : Nat) (st : Nat → Nat) (s : Nat) (hn : w.heap.size ≤ n) : OwnFrom n (AllI w st s) := fun pre X Y row hs hg hr => by
  have hc : ∀ {b : Nat} {c : Array Value} {t : TypeId} {fr : Nat × Nat}, X.heap[b]? = some (.cells c t fr) → row ≠ some b := fun h e => by
    obtain ⟨_, o, ho, hc⟩ := hr _ e
    rw [h] at ho; cases ho; cases hc
  obtain ⟨v, h1, h2⟩ := hs.row
  refine ⟨⟨v, h1.kept hg (fun e => hc h1 e.symm), ?_⟩, hs.key.kept hg (fun e => hc hs.key e.symm), hs.below.grown hg hs.below.size (fun k e => Nat.le_trans hn (hr k e).1), Nat.le_trans hs.big hg.size⟩
  refine World.ownsRow.kept h2 hg ?_
  by_cases e : v.ownBlock = none
  · exact .inl e
  · refine .inr fun e2 => ?_
    obtain ⟨g, hg2⟩ := Option.ne_none_iff_exists'.1 e
    obtain ⟨_, _, c, fr, h3⟩ := own_int h2 hg2
    exact hc h3 (by rw [← e2, hg2])
section
variable {w : World} {T M : Nat} {R : Option Nat} {B D : Nat} {ws : List Nat} {l : List (Nat × Nat)}
end
end Go.Proofs.YtoamlkljfmgomaaGreat
