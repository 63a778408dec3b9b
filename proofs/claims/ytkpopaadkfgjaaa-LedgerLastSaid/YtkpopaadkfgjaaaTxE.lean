/-
  slices.Collect at pairs, over whatever iterator that tells N of them; Puts: all words that are thought of.
  Conditions: the iterator has its contract, of at most 1000000 pairs; the Tx is nil, or stands in memory.
-/
import Derived.Test.YtkpopaadkfgjaaaTxD
namespace Go.Proofs.Ytkpopaadkfgjaaa
open Go.RowKit Go.Shelf
set_option linter.unusedVariables false
set_option linter.unusedSimpArgs false
attribute [local go_sem] Oper.semAt_some

theorem info_put : (Try.prog.info? 67).map (fun i => (i.zero, i.size, i.bytes)) = some (some (.agg #[.int .u64 0, .int .u64 0]), 2, 16) := by kernel_rfl
/-- pairs, as cells -/
def cellsXV (X V : Nat → Nat) (l : List Nat) : List Value := l.flatMap fun k => [.int .u64 (X k : Nat), .int .u64 (V k : Nat)]
theorem cellsXV_snoc (X V : Nat → Nat) (l : List Nat) (k : Nat) : cellsXV X V (l ++ [k]) = cellsXV X V l ++ [.int .u64 (X k : Nat), .int .u64 (V k : Nat)] := by
  simp [cellsXV, List.flatMap_append]
theorem below_keep {T M : Nat} {R : Option Nat} {bx : Nat} {w W W' : World} (hf : ∀ k, foot T M R k → k < w.heap.size) (hb : bx < w.heap.size) (h : Below w.heap.size W W') : TxKeep T M R bx W W' :=
  ⟨h.size, fun k hk => h.block k (by
    rcases hk with hk | rfl
    · exact hf k hk
    · exact hb)⟩
theorem cells_two_new (W : World) (t : TypeId) (x y : Value) : ∀ j u, [x, y][j]? = some u → (W.alloc (.cells #[x, y] t)).cell? ((⟨W.heap.size, 0, none⟩ : Addr).add j) = some u := by
  intro j u hj
  have hb : (W.alloc (.cells #[x, y] t)).heap[W.heap.size]? = some (.cells #[x, y] t (0, 0)) := heap_alloc_new' _ _
  have hadd : ∀ j, (⟨W.heap.size, 0, none⟩ : Addr).add j = ⟨W.heap.size, j, none⟩ := fun j => by unfold Addr.add; split <;> simp_all
  rw [hadd]
  unfold World.cell?
  simp only [hb]
  rcases j with _ | _ | j
  · simp at hj; subst hj; rfl
  · simp at hj; subst hj; rfl
  · simp at hj
/-- pairs, as cells -/
def cellsP (l : List (Nat × Nat)) : List Value := l.flatMap fun p => [.int .u64 (p.1 : Nat), .int .u64 (p.2 : Nat)]
theorem cellsP_range (l : List (Nat × Nat)) : cellsXV (txX l) (txV l) (List.range l.length) = cellsP l := by
  unfold cellsXV cellsP
  have h : ∀ k, k ∈ List.range l.length → [Value.int .u64 (txX l k : Nat), Value.int .u64 (txV l k : Nat)] = (fun p : Nat × Nat => [Value.int .u64 (p.1 : Nat), Value.int .u64 (p.2 : Nat)]) (l.getD k (0, 0)) := fun _ _ => rfl
  rw [List.flatMap_def, List.flatMap_def, List.map_congr_left h]
  congr 1
  apply List.ext_getElem
  · simp
  · intro i h1 h2
    simp at h1 h2
    simp [List.getD_eq_getElem?_getD, List.getElem?_eq_getElem h1]
/-- A row of the call's own that holds these pairs (or nil, of none). -/
def OwnP (w : World) (base : Nat) (v : Value) (l : List (Nat × Nat)) : Prop := w.ownsRow base 67 2 v l.length (cellsP l)
section
variable {w : World} {T M : Nat} {R : Option Nat} {B D : Nat} {ws : List Nat} {l : List (Nat × Nat)}
end
end Go.Proofs.Ytkpopaadkfgjaaa
