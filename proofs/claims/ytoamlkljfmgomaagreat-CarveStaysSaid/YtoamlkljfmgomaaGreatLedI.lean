/-
  Package ledger: what 'blocks' hands back, as an iterator: it tells each block of a client's list, in turn; the contract of List.
  Conditions: the Tx stands in memory; the words tell the list.
-/
import Derived.Test.YtoamlkljfmgomaaGreatLedA
import Derived.Test.YtoamlkljfmgomaaGreatLTx
namespace Go.Proofs.YtoamlkljfmgomaaGreat
open Go.RowKit Go.Shelf
set_option linter.unusedVariables false
set_option linter.unusedSimpArgs false
set_option maxRecDepth 100000
attribute [local go_sem] Oper.semAt_some

/-- unlike multiples of eight below 8 n: n at most -/
theorem few_places : ∀ (n : Nat) (xs : List Nat), xs.Nodup → (∀ x ∈ xs, x % 8 = 0 ∧ x < 8 * n) → xs.length ≤ n
  | 0, xs, _, h => by
    cases xs with
    | nil => exact Nat.le_refl _
    | cons x r => have := h x (by simp); omega
  | n + 1, xs, hn, h => by
    have h1 := few_places n (xs.erase (8 * n)) (hn.erase _) (fun x hx => by
      obtain ⟨h2, h3⟩ := hn.mem_erase_iff.1 hx
      have := h x h3
      omega)
    by_cases hm : 8 * n ∈ xs
    · rw [List.length_erase_of_mem hm] at h1; omega
    · rw [List.erase_of_not_mem hm] at h1; omega
/-- What a body that goes on keeps: what stood below n, and two boxes. -/
def LdK (n tb : Nat) (p c : Value) (A C : World) : Prop := Below n A C ∧ (Boxed A tb 25 p → Boxed C tb 25 p) ∧ (Boxed A (tb + 1) 3 c → Boxed C (tb + 1) 3 c)
theorem LdK.refl (n tb : Nat) (p c : Value) (A : World) : LdK n tb p c A A := ⟨Below.refl _ _, id, id⟩
theorem LdK.trans {n tb : Nat} {p c : Value} {A C E : World} (h : LdK n tb p c A C) (k : LdK n tb p c C E) : LdK n tb p c A E := ⟨h.1.trans k.1, fun b => k.2.1 (h.2.1 b), fun b => k.2.2 (h.2.2 b)⟩
theorem LdK.put {n tb : Nat} {p c : Value} {w0 : World} (hn : n ≤ w0.heap.size) (hb : tb + 1 < w0.heap.size) (W : World) (l : Nat) (o o' : Obj) (hl : w0.heap.size ≤ l) (h : W.heap[l]? = some o) (hc : o.isCells = false) (hw : o.isWalk = false) : LdK n tb p c W (W.putObj l o') :=
  ⟨belowK_b (w := w0) hn W l o o' hl h hc hw, fun b => by
    unfold Boxed at b ⊢
    rw [World.putObj_heap_other (by omega)]
    exact b, fun b => by
    unfold Boxed at b ⊢
    rw [World.putObj_heap_other (by omega)]
    exact b⟩
/-- Head and Load tell this list, one block behind the other, from whatever world on. -/
structure Tells (w : World) (p : Value) (c : Int) (xs : List Nat) : Prop where
  first : ∀ V, w.grownBy V none → Calls Tryz.prog 65 #[p, .int .i64 c] V fun e V' => e = .returned (.int .u64 (xs.getD 0 0 : Nat)) ∧ V.grownBy V' none
  size : ∀ V, w.grownBy V none → Calls Tryz.prog 93 #[p] V fun e V' => e = .returned (.int .u64 4800) ∧ V = V'
  next : ∀ V k, w.grownBy V none → k < xs.length → Calls Tryz.prog 20 #[p, .int .u64 (xs.getD k 0 + 16 : Nat)] V fun e V' => e = .returned (.int .u64 (xs.getD (k + 1) 0 : Nat)) ∧ V.grownBy V' none
  low : ∀ x ∈ xs, 0 < x ∧ x < 4800
  few : xs.length ≤ 599
/-! ### List -/
theorem OwnW.snoc {w : World} {base : Nat} {v : Value} {xs : List Nat} {y : Nat} (h : w.ownsRow base 23 1 v (xs.length + 1) (cellsU xs ++ [.int .u64 (y : Nat)])) : OwnW w base v (xs ++ [y]) := by
  unfold OwnW
  have e1 : cellsU (xs ++ [y]) = cellsU xs ++ [.int .u64 (y : Nat)] := by simp [cellsU]
  rw [e1, List.length_append]
  exact h
theorem own_num {base : Nat} {A : World} {v : Value} {xs : List Nat} {g : Nat} (h : OwnW A base v xs) (hg : v.ownBlock = some g) : base ≤ g ∧ g < A.heap.size ∧ ∃ c fr, A.heap[g]? = some (.cells c 23 fr) := by
  obtain ⟨_, cur, hb⟩ := row_block h hg
  exact ⟨(World.ownsRow.lt h g hg).1, (World.ownsRow.lt h g hg).2, cur, _, hb⟩
/-- What List's loop holds. -/
structure ListI (w : World) (f : Nat → Nat) (pre : List Nat) (W : World) : Prop where
  row : ∃ v, Boxed W w.heap.size 27 v ∧ OwnW W w.heap.size v (pre.map f)
  below : Below w.heap.size w W
  big : w.heap.size + 3 ≤ W.heap.size
theorem ListI.own (w : World) (n : Nat) (f : Nat → Nat) (hn : w.heap.size ≤ n) : OwnFrom n (ListI w f) := fun pre X Y row hs hg hr => by
  have hc : ∀ {b : Nat} {c : Array Value} {t : TypeId} {fr : Nat × Nat}, X.heap[b]? = some (.cells c t fr) → row ≠ some b := fun h e => by
    obtain ⟨_, o, ho, hc⟩ := hr _ e
    rw [h] at ho; cases ho; cases hc
  obtain ⟨v, h1, h2⟩ := hs.row
  refine ⟨⟨v, h1.kept hg (fun e => hc h1 e.symm), ?_⟩, hs.below.grown hg hs.below.size (fun k e => Nat.le_trans hn (hr k e).1), Nat.le_trans hs.big hg.size⟩
  refine World.ownsRow.kept h2 hg ?_
  by_cases e : v.ownBlock = none
  · exact .inl e
  · refine .inr fun e2 => ?_
    obtain ⟨g, hg2⟩ := Option.ne_none_iff_exists'.1 e
    obtain ⟨_, _, c, fr, h3⟩ := own_num h2 hg2
    exact hc h3 (by rw [← e2, hg2])
end Go.Proofs.YtoamlkljfmgomaaGreat
