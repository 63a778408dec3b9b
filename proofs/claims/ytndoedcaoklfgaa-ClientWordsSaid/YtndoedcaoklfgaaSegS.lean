/-
  The contract of the plain answer Store: a row of its own with one word otherwise, or what came in and an error.
  Conditions: the words are a row of the call's own, or nil; the numbers are of 64 bits.
-/
import Derived.Test.YtndoedcaoklfgaaSegR
namespace Go.Proofs.Ytndoedcaoklfgaa
open Go.RowKit
set_option linter.unusedVariables false
set_option linter.unusedSimpArgs false

theorem cellsU_set (ws : List Nat) (q x : Nat) : (cellsU ws).set q (.int .u64 (x : Nat)) = cellsU (ws.set q x) := by
  simp [cellsU, List.map_set]
theorem cellsU_one (ws : List Nat) : ∀ u ∈ cellsU ws, u.oneCell' = true := by
  intro u hu
  obtain ⟨b, _, rfl⟩ := List.mem_map.mp hu
  rfl
/-- What Store tells: a row of its own, and all that was there is as it was. -/
structure StorePost (w : World) (v' : Value) (ws : List Nat) (w' : World) : Prop where
  grown : w.grownBy w' none
  own : OwnW w' w.heap.size v' ws
theorem StorePost.made {w w1 : World} {ws : List Nat} {g cp q x : Nat} (hg : w.grownBy w1 none) (hb : w.heap.size ≤ g) (hown : OwnW w1 w.heap.size (.slice (some ⟨g, 0, none⟩) ws.length cp) ws) :
    StorePost w (.slice (some ⟨g, 0, none⟩) ws.length cp) (ws.set q x) (w1.setCell ⟨g, q, none⟩ (.int .u64 (x : Nat))) := by
  have hs := World.ownsRow.stored hown q (.int .u64 (x : Nat))
  refine ⟨grown_step hg hs.2 fun i hi => .inl (by injection hi; omega), ?_⟩
  unfold OwnW
  rw [List.length_set, ← cellsU_set]
  exact hs.1
/-- 'append([]uint64{}, w...)': a row of its own that holds the same words. -/
theorem wpList_append_all {w : World} {base : Nat} {ws : List Nat} {g0 c0 : Nat} (hw : OwnW w base (.slice (some ⟨g0, 0, none⟩) ws.length c0) ws) (hm : ws.length ≤ 131072) (h1 : 1 ≤ ws.length)
    {ops : Array Oper} {rest : List Oper} {o : Oper} {a : Act} {Q : Exit → Act → World → Prop} (hgd : o.guard = none) (s x : Operand)
    (ho : o.op = .call { callee := .builtin .append, args := #[s, x], argTypes := #[27, 27] })
    (hs : a.eval s = .slice (some ⟨w.heap.size, 0, none⟩) 0 0) (hx : a.eval x = .slice (some ⟨g0, 0, none⟩) ws.length c0)
    (h : ∀ g cp w', w.grownBy w' none → w.heap.size ≤ g → OwnW w' w.heap.size (.slice (some ⟨g, 0, none⟩) ws.length cp) ws → wpList Try.prog ops Q rest (a.put o.dst (.slice (some ⟨g, 0, none⟩) ws.length cp)) w') :
    wpList Try.prog ops Q (o :: rest) a (w.alloc (.cells #[] 24)) := by
  obtain ⟨i0, hi, hz0, hz1, hz2⟩ := info_parts info_u64
  have hown0 : (w.alloc (.cells #[] 24)).ownsRow w.heap.size 24 1 (.slice (some ⟨w.heap.size, 0, none⟩) 0 0) 0 [] := World.ownsRow_lit (base := w.heap.size) (e := 24) (size := 1) w #[] 0 (Nat.le_refl _) (by decide) rfl
  have hsrc : ∀ j u, (cellsU ws)[j]? = some u → (w.alloc (.cells #[] 24)).cell? ((⟨g0, 0, none⟩ : Addr).add j) = some u := World.ownsRow.cells (World.ownsRow.alloc hw _) rfl
  refine wpList_append_own _ hgd s x 27 ho w.heap.size 24 i0 (.int .u64 0) 1 8 Try.underlying27 hi hz0 hz1 hz2 rfl (by decide) _ 0 [] hs hown0 ⟨g0, 0, none⟩ ws.length c0 (cellsU ws) hx (by rw [cellsU_len, Nat.mul_one]) hsrc (cellsU_one ws) (by unfold maxLen; omega) (by omega) (by rw [World.size_alloc]; omega) ?_
  intro v' w1 hown hgrow _
  obtain ⟨g, cp, rfl, hgb, hgl⟩ := World.ownsRow.form hown (by omega)
  rw [Nat.zero_add, List.nil_append] at hown
  rw [Nat.zero_add]
  exact h g cp w1 (grown_new (grown_trans (grown_any (World.grownBy_alloc w (.cells #[] 24) none) _) hgrow) (Nat.le_refl _)) hgb hown
end Go.Proofs.Ytndoedcaoklfgaa
