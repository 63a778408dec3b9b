/-
  Package tx: the contract of Apply: all that is thought of is stored in the segment, in turn; nothing else turns.
  Conditions: the Tx is nil, or stands in memory.
-/
import Derived.Test.YtkpopaadkfgjaaaTxE
import Derived.Test.YtkpopaadkfgjaaaStillIn
namespace Go.Proofs.Ytkpopaadkfgjaaa
open Go.RowKit Go.Shelf
set_option linter.unusedVariables false
set_option linter.unusedSimpArgs false
attribute [local go_sem] Oper.semAt_some

/-- words, with the pairs of these places stored -/
def applyI (ws : List Nat) (l : List (Nat × Nat)) (ks : List Nat) : List Nat := ks.foldl (fun ws k => put ws (txX l k) (txV l k)) ws
theorem applyI_snoc (ws : List Nat) (l : List (Nat × Nat)) (ks : List Nat) (k : Nat) : applyI ws l (ks ++ [k]) = put (applyI ws l ks) (txX l k) (txV l k) := by
  simp [applyI, List.foldl_append]
theorem applyI_len (ws : List Nat) (l : List (Nat × Nat)) (ks : List Nat) : (applyI ws l ks).length = ws.length := by
  induction ks generalizing ws with
  | nil => rfl
  | cons k r ih =>
    show (applyI (put ws (txX l k) (txV l k)) l r).length = _
    rw [ih, put_len]
theorem applyI_all (ws : List Nat) (l : List (Nat × Nat)) : applyI ws l (List.range l.length) = txApply ws l := by
  unfold applyI txApply
  have h : l = (List.range l.length).map (fun k => l.getD k (0, 0)) := by
    apply List.ext_getElem
    · simp
    · intro i h1 h2
      simp [List.getD_eq_getElem?_getD, List.getElem?_eq_getElem h1]
  have e : l.foldl (fun ws p => put ws p.1 p.2) ws = ((List.range l.length).map (fun k => l.getD k (0, 0))).foldl (fun ws p => put ws p.1 p.2) ws := congrArg (fun m => List.foldl (fun ws (p : Nat × Nat) => put ws p.1 p.2) ws m) h
  rw [e, List.foldl_map]
  rfl
/-- What holds between two rounds: the segment has the words of these places, and nothing but its bytes has turned. -/
structure ApplyI (w : World) (b0 T B D : Nat) (ws : List Nat) (W : World) : Prop where
  seg : IsSeg W B D ws
  grown : w.grownBy W (some D)
  big : b0 + 2 ≤ W.heap.size
  box : W.heap[b0]? = some (.cells #[.pointer (some ⟨T, 0, none⟩)] 25 (0, 0))
theorem ApplyI.own (w : World) (n b0 T B D : Nat) (f : List Nat → List Nat) (hn : w.heap.size ≤ n) : OwnFrom n (fun (pre : List Nat) W => ApplyI w b0 T B D (f pre) W) := fun s X Y row hs hg hr => by
  have hc : ∀ {b : Nat} {c : Array Value} {t : TypeId} {fr : Nat × Nat}, X.heap[b]? = some (.cells c t fr) → row ≠ some b := fun h e => by
    obtain ⟨_, o, ho, hc⟩ := hr _ e
    rw [h] at ho; cases ho; cases hc
  refine ⟨hs.seg.kept hg (hc hs.seg.head) (hc hs.seg.data), grown_step hs.grown hg (fun i hi => .inl (Nat.le_trans hn (hr i hi).1)), Nat.le_trans hs.big hg.size, ?_⟩
  exact (hg.block b0 (lt_of_block hs.box) (fun e => hc hs.box e.symm)).trans hs.box

section
variable {w : World} {T M : Nat} {R : Option Nat} {B D : Nat} {ws : List Nat} {l : List (Nat × Nat)}
end
end Go.Proofs.Ytkpopaadkfgjaaa
