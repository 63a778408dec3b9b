/-
  Nodes of a tree in memory, and slices.SortFunc of them: by their keys.
  No condition.
-/
import Derived.Test.YthhboidjibdahaaGreatTreeP
import Derived.Test.YthhboidjibdahaaGreatTreeB
namespace Go.Proofs.YthhboidjibdahaaGreat
open Go.RowKit
set_option linter.unusedVariables false
set_option linter.unusedSimpArgs false
set_option maxRecDepth 100000

/-- a node: its size, its offset, and its sons -/
structure Nd where
  s : Nat
  o : Nat
  l : Nat
  r : Nat
instance : Inhabited Nd := ⟨⟨0, 0, 0, 0⟩⟩
def Nd.row (x : Nd) : List Value := [.int .u64 (x.s : Nat), .int .u64 (x.o : Nat), .int .u64 (x.l : Nat), .int .u64 (x.r : Nat)]
def cellsN (l : List Nd) : List Value := l.flatMap Nd.row
theorem cellsN_cons (a : Nd) (l : List Nd) : cellsN (a :: l) = a.row ++ cellsN l := rfl
theorem cellsN_len : ∀ l : List Nd, (cellsN l).length = l.length * 4
  | [] => rfl
  | a :: l => by rw [cellsN_cons, List.length_append, cellsN_len l]; show 4 + _ = _; simp only [List.length_cons]; omega
theorem cellsN_at : ∀ (l : List Nd) (k i : Nat), k < l.length → i < 4 → (cellsN l)[k * 4 + i]? = (l.getD k default).row[i]?
  | [], k, i, h, _ => by simp at h
  | a :: l, 0, i, h, hi => by
    rw [cellsN_cons, Nat.zero_mul, Nat.zero_add, List.getElem?_append_left (by show i < 4; exact hi)]; rfl
  | a :: l, k + 1, i, h, hi => by
    rw [cellsN_cons, List.getElem?_append_right (by show 4 ≤ _; omega)]
    show (cellsN l)[(k + 1) * 4 + i - 4]? = _
    rw [show (k + 1) * 4 + i - 4 = k * 4 + i by omega, cellsN_at l k i (by simpa using h) hi]
    simp
theorem set_four (a : Nd) (l : List Value) (m : Nat) (v : Value) : (a.row ++ l).set (m + 4) v = a.row ++ l.set m v := by
  simp [Nd.row]
theorem cellsN_setL : ∀ (l : List Nd) (k v : Nat), k < l.length → (cellsN l).set (k * 4 + 2) (.int .u64 (v : Nat)) = cellsN (l.set k { l.getD k default with l := v })
  | [], k, v, h => by simp at h
  | a :: l, 0, v, h => by simp [cellsN_cons, Nd.row]
  | a :: l, k + 1, v, h => by
    rw [show (k + 1) * 4 + 2 = (k * 4 + 2) + 4 by omega, cellsN_cons, set_four, cellsN_setL l k v (by simpa using h)]
    simp [cellsN_cons]
theorem cellsN_setR : ∀ (l : List Nd) (k v : Nat), k < l.length → (cellsN l).set (k * 4 + 3) (.int .u64 (v : Nat)) = cellsN (l.set k { l.getD k default with r := v })
  | [], k, v, h => by simp at h
  | a :: l, 0, v, h => by simp [cellsN_cons, Nd.row]
  | a :: l, k + 1, v, h => by
    rw [show (k + 1) * 4 + 3 = (k * 4 + 3) + 4 by omega, cellsN_cons, set_four, cellsN_setR l k v (by simpa using h)]
    simp [cellsN_cons]
theorem cellsN_setK : ∀ (l : List Nd) (k x y : Nat), k < l.length → ((cellsN l).set (k * 4) (.int .u64 (x : Nat))).set (k * 4 + 1) (.int .u64 (y : Nat)) = cellsN (l.set k { l.getD k default with s := x, o := y })
  | [], k, x, y, h => by simp at h
  | a :: l, 0, x, y, h => by simp [cellsN_cons, Nd.row]
  | a :: l, k + 1, x, y, h => by
    rw [show (k + 1) * 4 = k * 4 + 4 by omega, show k * 4 + 4 + 1 = (k * 4 + 1) + 4 by omega, cellsN_cons, set_four, set_four, cellsN_setK l k x y (by simpa using h)]
    simp [cellsN_cons]
/-- Block g holds these nodes, and nothing else. -/
def NodesAt (w : World) (g : Nat) (nds : List Nd) : Prop := w.heap[g]? = some (.cells (cellsN nds).toArray 72 (0, 0))
section
variable {w w' : World} {g k : Nat} {nds : List Nd}
theorem NodesAt.lt (h : NodesAt w g nds) : g < w.heap.size := lt_of_block h
theorem NodesAt.cell (h : NodesAt w g nds) (hk : k < nds.length) : w.cell? ⟨g, k * 4, none⟩ = some (.int .u64 ((nds.getD k default).s : Nat)) ∧ w.cell? ⟨g, k * 4 + 1, none⟩ = some (.int .u64 ((nds.getD k default).o : Nat)) ∧ w.cell? ⟨g, k * 4 + 2, none⟩ = some (.int .u64 ((nds.getD k default).l : Nat)) ∧ w.cell? ⟨g, k * 4 + 3, none⟩ = some (.int .u64 ((nds.getD k default).r : Nat)) := by
  have hc : ∀ i, i < 4 → w.cell? ⟨g, k * 4 + i, none⟩ = (nds.getD k default).row[i]? := fun i hi => by
    unfold World.cell?
    rw [show w.heap[g]? = _ from h]
    simpa using cellsN_at nds k i hk hi
  exact ⟨hc 0 (by omega), hc 1 (by omega), hc 2 (by omega), hc 3 (by omega)⟩
theorem NodesAt.frozen (h : NodesAt w g nds) (i : Nat) : w.frozen? ⟨g, i, none⟩ = false := by
  unfold World.frozen?
  rw [show w.heap[g]? = _ from h]
  simp
theorem NodesAt.later {row : Option Nat} (h : NodesAt w g nds) (hg : w.grownBy w' row) (hr : some g ≠ row) : NodesAt w' g nds := (hg.block g h.lt hr).trans h
theorem NodesAt.setL (h : NodesAt w g nds) (hk : k < nds.length) (v : Nat) : NodesAt (w.setCell ⟨g, k * 4 + 2, none⟩ (.int .u64 (v : Nat))) g (nds.set k { nds.getD k default with l := v }) := by
  unfold NodesAt
  rw [heap_setCell_same h, List.setIfInBounds_toArray, cellsN_setL nds k v hk]
theorem NodesAt.setR (h : NodesAt w g nds) (hk : k < nds.length) (v : Nat) : NodesAt (w.setCell ⟨g, k * 4 + 3, none⟩ (.int .u64 (v : Nat))) g (nds.set k { nds.getD k default with r := v }) := by
  unfold NodesAt
  rw [heap_setCell_same h, List.setIfInBounds_toArray, cellsN_setR nds k v hk]
theorem NodesAt.setK (h : NodesAt w g nds) (hk : k < nds.length) (x y : Nat) : NodesAt ((w.setCell ⟨g, k * 4, none⟩ (.int .u64 (x : Nat))).setCell ⟨g, k * 4 + 1, none⟩ (.int .u64 (y : Nat))) g (nds.set k { nds.getD k default with s := x, o := y }) := by
  unfold NodesAt
  rw [heap_setCell_same (heap_setCell_same h _), List.setIfInBounds_toArray, List.setIfInBounds_toArray, cellsN_setK nds k x y hk]
end
/-! ### The sort -/
theorem flatK_cells (l : List Nd) : Go.Sort.flatK Nd.row 4 l.toArray = (cellsN l).toArray := by
  apply Array.ext
  · simp [cellsN_len]
  · intro i h1 h2
    simp only [Go.Sort.size_flatK, List.size_toArray] at h1
    have h3 := Go.Sort.get_flatK Nd.row 4 l.toArray i (by simpa using h1)
    rw [getElem!_pos _ i (by simpa using h1)] at h3
    rw [h3]
    have hk : i / 4 < l.length := by omega
    have h4 := cellsN_at l (i / 4) (i % 4) hk (by omega)
    rw [show i / 4 * 4 + i % 4 = i by omega] at h4
    have h5 : l.toArray[i / 4]! = l.getD (i / 4) default := by
      rw [getElem!_pos _ _ (by simpa using hk), List.getD_eq_getElem?_getD, List.getElem?_eq_getElem hk]
      simp
    rw [h5]
    have hlen : i % 4 < (l.getD (i / 4) default).row.length := by show _ < 4; omega
    rw [getElem!_pos (l.getD (i / 4) default).row (i % 4) hlen]
    rw [List.getElem?_eq_getElem hlen] at h4
    have h6 : i < (cellsN l).length := by rw [cellsN_len]; exact h1
    rw [List.getElem?_eq_getElem h6] at h4
    simp only [List.getElem_toArray]
    exact (Option.some.inj h4).symm
/-- which node's key is smaller -/
def cfN (x y : Nd) : Int := cmpK x.s x.o y.s y.o
theorem ltOf_cfN (x y : Nd) : Go.Proofs.ltOf cfN x y = decide (ltK x.s x.o y.s y.o) := by
  unfold Go.Proofs.ltOf cfN
  by_cases h : ltK x.s x.o y.s y.o
  · rw [cmpK_lt h, decide_eq_true h]; rfl
  · rw [decide_eq_false h]
    rcases cmpK_ge h with e | e <;> rw [e] <;> rfl
theorem swo_cfN : Go.Sort.SWO (Go.Proofs.ltOf cfN) where
  irrefl x := by rw [ltOf_cfN]; exact decide_eq_false (by unfold ltK; omega)
  trans x y z h1 h2 := by
    rw [ltOf_cfN] at *
    have h1 := of_decide_eq_true h1
    have h2 := of_decide_eq_true h2
    exact decide_eq_true (by unfold ltK at *; omega)
  ntrans x y z h1 h2 := by
    rw [ltOf_cfN] at *
    have h1 := of_decide_eq_false h1
    have h2 := of_decide_eq_false h2
    exact decide_eq_false (by unfold ltK at *; omega)
theorem four_cells {w : World} {b : Nat} {x y z u : Value} {t : TypeId} {fr : Nat × Nat} (h : w.heap[b]? = some (.cells #[x, y, z, u] t fr)) : w.cell? ⟨b, 0, none⟩ = some x ∧ w.cell? ⟨b, 1, none⟩ = some y ∧ w.cell? ⟨b, 2, none⟩ = some z ∧ w.cell? ⟨b, 3, none⟩ = some u := by
  refine ⟨?_, ?_, ?_, ?_⟩ <;> simp [World.cell?, h]
set_option maxHeartbeats 1000000 in
/-- the closure that the sort is handed -/
theorem shape1_any (x y : Nd) (W : World) : Calls Tryz.prog 52 #[.agg x.row.toArray, .agg y.row.toArray] W fun e w' => e = .returned (.int .i64 (cfN x y)) ∧ ∃ q os', w' = Go.Sort.grow (W.drewN q) os' := by
  obtain ⟨s, o, l, r⟩ := x
  obtain ⟨s', o', l', r'⟩ := y
  unfold cfN
  simp only [Nd.row]
  have hc := fun w => tcompare_any s o s' o' w
  obtain ⟨c, ec⟩ : ∃ c, cmpK s o s' o' = c := ⟨_, rfl⟩
  rw [ec] at hc ⊢
  have ha : ((W.alloc (.cells #[.int .u64 s, .int .u64 o, .int .u64 l, .int .u64 r] 72)).alloc (.cells #[.int .u64 s', .int .u64 o', .int .u64 l', .int .u64 r'] 72)).heap[W.heap.size]? = some (.cells #[.int .u64 s, .int .u64 o, .int .u64 l, .int .u64 r] 72 (0, 0)) := (Below.heap_alloc _ _ _ (by simp)).trans (heap_alloc_new' W _)
  have hb : ((W.alloc (.cells #[.int .u64 s, .int .u64 o, .int .u64 l, .int .u64 r] 72)).alloc (.cells #[.int .u64 s', .int .u64 o', .int .u64 l', .int .u64 r'] 72)).heap[W.heap.size + 1]? = some (.cells #[.int .u64 s', .int .u64 o', .int .u64 l', .int .u64 r'] 72 (0, 0)) := by
    have := heap_alloc_new' (W.alloc (.cells #[.int .u64 s, .int .u64 o, .int .u64 l, .int .u64 r] 72)) (.cells #[.int .u64 s', .int .u64 o', .int .u64 l', .int .u64 r'] 72)
    rwa [World.size_alloc] at this
  obtain ⟨V, hV⟩ : ∃ V, (W.alloc (.cells #[.int .u64 s, .int .u64 o, .int .u64 l, .int .u64 r] 72)).alloc (.cells #[.int .u64 s', .int .u64 o', .int .u64 l', .int .u64 r'] 72) = V := ⟨_, rfl⟩
  rw [hV] at ha hb
  obtain ⟨a0, a1, a2, a3⟩ := four_cells ha
  obtain ⟨b0, b1, b2, b3⟩ := four_cells hb
  clear ha hb ec
  go_enter Tryz.func52, Tryz.ntmps52
  go_wp2_with (first | (go_at_call 49; (with_reducible refine (hc _).mono ?_); rintro e w1 ⟨rfl, q, os, rfl⟩))
  go_ret
  refine ⟨rfl, q, #[.cells #[.int .u64 s, .int .u64 o, .int .u64 l, .int .u64 r] 72, .cells #[.int .u64 s', .int .u64 o', .int .u64 l', .int .u64 r'] 72] ++ os, ?_⟩
  rw [← hV]
  simp only [Go.Sort.alloc_eq_grow, Go.Sort.grow_grow]
  rw [← Go.Sort.grow_grow, ← Go.Sort.grow_grow]
  rfl
section
variable {w w' : World} {g k : Nat} {nds : List Nd}
theorem put_all {F c : Array Value} (h : c.size = F.size) : Go.Sort.putCells id 0 F c = F := by
  unfold Go.Sort.putCells
  apply Array.ext
  · simpa using h
  · intro i h1 h2
    simp only [Array.getElem_mapIdx, Nat.zero_add, Nat.sub_zero, Nat.zero_le, true_and, id]
    rw [if_pos h2, getElem!_pos _ i h2]
set_option maxHeartbeats 1000000 in
theorem sort_any (h : NodesAt w g nds) (hl : nds.length ≤ 1000000) (cap : Nat) :
    Calls Tryz.prog 51 #[.slice (some ⟨g, 0, none⟩) nds.length cap, .func (.func 52) #[] #[]] w fun e w' => e = .returned (.tuple #[]) ∧ ∃ nd', NodesAt w' g nd' ∧ nd'.Perm nds ∧ nd'.Pairwise (fun x y => ¬ ltK y.s y.o x.s x.o) ∧ w.grownBy w' (some g) := by
  have eg : ∀ args w, (callFunc 52 args).run Tryz.prog w = .ok (.enter 52 args) w := enters_of Tryz.func52 (by kernel_rfl) rfl
  have hH : Go.Sort.HoldsK Nd.row 4 w g 0 nds.toArray := by
    unfold Go.Sort.HoldsK
    rw [flatK_cells]
    intro j hj
    rw [Nat.zero_add]
    refine ⟨?_, h.frozen j⟩
    unfold World.cell?
    rw [show w.heap[g]? = _ from h]
    simp only [Option.isSome_none, Bool.false_eq_true, if_false, id]
    rw [getElem!_pos _ j hj, Array.getElem?_eq_getElem hj]
  have hcmp : Go.Proofs.CmpLays Tryz.prog 52 #[] Nd.row 4 cfN g 0 nds.toArray.size w := fun m os dk hs x y => shape1_any x y _
  have hcon := Go.Proofs.AnyQ.slices_SortFunc sortNode 4 Tryz.isAgg72 Tryz.sizeOf72 Nd.row (fun _ => rfl) (fun x v hv => by simp [Nd.row] at hv; rcases hv with rfl | rfl | rfl | rfl <;> rfl) cfN swo_cfN 52 #[] g 0 cap nds.toArray w eg hcmp hH h.lt (by simp; omega)
  have hcon2 : Calls Tryz.prog 51 #[.slice (some ⟨g, 0, none⟩) nds.length cap, .func (.func 52) #[] #[]] w _ := hcon
  refine hcon2.mono ?_
  rintro e w' ⟨rfl, d', n, os, hp, hs, rfl⟩
  obtain ⟨p1, p2, p3⟩ := hp
  have hsz : d'.size = nds.length := by simpa using p1
  have hb : (Go.Proofs.sortWorldK Nd.row 4 w g 0 n d' os).heap[g]? = some (.cells (cellsN d'.toList).toArray 72 (0, 0)) := by
    show ((w.heap.modify g (Go.Sort.onCells (Go.Sort.putCells id 0 (Go.Sort.flatK Nd.row 4 d')))) ++ os)[g]? = _
    rw [Array.getElem?_append_left (by simpa using h.lt), Array.getElem?_modify, if_pos rfl, show w.heap[g]? = _ from h]
    simp only [Option.map_some, Go.Sort.onCells]
    rw [put_all (by simp [cellsN_len, hsz])]
    have := flatK_cells d'.toList
    simp only [Array.toArray_toList] at this
    rw [this]
  refine ⟨rfl, d'.toList, hb, ?_, ?_, ?_⟩
  · have h3 : (d'.extract 0 nds.toArray.size).toList.Perm (nds.toArray.extract 0 nds.toArray.size).toList := p3
    have e1 : d'.extract 0 nds.toArray.size = d' := by rw [← p1]; exact Array.extract_size
    rw [e1] at h3
    simpa using h3
  · rw [List.pairwise_iff_getElem]
    intro i j hi hj hij
    have h3 := hs i j (Nat.zero_le _) hij (by simp at hj ⊢; omega)
    have hi' : i < d'.size := by simpa using hi
    have hj' : j < d'.size := by simpa using hj
    rw [ltOf_cfN, getElem!_pos _ j hj', getElem!_pos _ i hi'] at h3
    have h4 := of_decide_eq_false h3
    simpa using h4
  · refine ⟨rfl, rfl, rfl, ?_, fun i hi hne => ?_⟩
    · show w.heap.size ≤ ((w.heap.modify g _) ++ os).size
      simp
    · show ((w.heap.modify g (Go.Sort.onCells (Go.Sort.putCells id 0 (Go.Sort.flatK Nd.row 4 d')))) ++ os)[i]? = _
      rw [Array.getElem?_append_left (by simpa using hi), Array.getElem?_modify, if_neg (fun e => hne (by rw [e]))]
end
end Go.Proofs.YthhboidjibdahaaGreat
