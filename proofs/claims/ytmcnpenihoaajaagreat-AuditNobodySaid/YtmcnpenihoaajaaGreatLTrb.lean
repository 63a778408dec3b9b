/-
  Texts of one layer, one behind the other: memory, contracts of the functions, and what follows of them.
  Conditions: as each theorem says.
-/
import Derived.Test.YtmcnpenihoaajaaGreatLTra
import Derived.Laws.AppendOwnNone
import Derived.Test.YtmcnpenihoaajaaGreatLSea
import Derived.Test.YtmcnpenihoaajaaGreatLTxa
set_option linter.unusedVariables false
set_option linter.unusedSimpArgs false
namespace Go.Proofs.YtmcnpenihoaajaaGreat
open Go.RowKit
set_option maxRecDepth 100000
structure Nd where
  s : Nat
  o : Nat
  l : Nat
  r : Nat
instance : Inhabited Nd := ⟨⟨0, 0, 0, 0⟩⟩
def Nd.row (x : Nd) : List Value := [.int .u64 (x.s : Nat), .int .u64 (x.o : Nat), .int .u64 (x.l : Nat), .int .u64 (x.r : Nat)]
def cellsN (l : List Nd) : List Value := l.flatMap Nd.row
theorem cellsN_cons (a : Nd) (l : List Nd) : cellsN (a :: l) = a.row ++ cellsN l := rfl
theorem cellsN_len : ∀ l : List Nd, (cellsN l).length = l.length * 4
  | [] => rfl
  | a :: l => by rw [cellsN_cons, List.length_append, cellsN_len l]; show 4 + _ = _; simp only [List.length_cons]; omega
theorem cellsN_at : ∀ (l : List Nd) (k i : Nat), k < l.length → i < 4 → (cellsN l)[k * 4 + i]? = (l.getD k default).row[i]?
  | [], k, i, h, _ => by simp at h
  | a :: l, 0, i, h, hi => by
    rw [cellsN_cons, Nat.zero_mul, Nat.zero_add, List.getElem?_append_left (by show i < 4; exact hi)]; rfl
  | a :: l, k + 1, i, h, hi => by
    rw [cellsN_cons, List.getElem?_append_right (by show 4 ≤ _; omega)]
    show (cellsN l)[(k + 1) * 4 + i - 4]? = _
    rw [show (k + 1) * 4 + i - 4 = k * 4 + i by omega, cellsN_at l k i (by simpa using h) hi]
    simp
theorem set_four (a : Nd) (l : List Value) (m : Nat) (v : Value) : (a.row ++ l).set (m + 4) v = a.row ++ l.set m v := by
  simp [Nd.row]
theorem cellsN_setL : ∀ (l : List Nd) (k v : Nat), k < l.length → (cellsN l).set (k * 4 + 2) (.int .u64 (v : Nat)) = cellsN (l.set k { l.getD k default with l := v })
  | [], k, v, h => by simp at h
  | a :: l, 0, v, h => by simp [cellsN_cons, Nd.row]
  | a :: l, k + 1, v, h => by
    rw [show (k + 1) * 4 + 2 = (k * 4 + 2) + 4 by omega, cellsN_cons, set_four, cellsN_setL l k v (by simpa using h)]
    simp [cellsN_cons]
theorem cellsN_setR : ∀ (l : List Nd) (k v : Nat), k < l.length → (cellsN l).set (k * 4 + 3) (.int .u64 (v : Nat)) = cellsN (l.set k { l.getD k default with r := v })
  | [], k, v, h => by simp at h
  | a :: l, 0, v, h => by simp [cellsN_cons, Nd.row]
  | a :: l, k + 1, v, h => by
    rw [show (k + 1) * 4 + 3 = (k * 4 + 3) + 4 by omega, cellsN_cons, set_four, cellsN_setR l k v (by simpa using h)]
    simp [cellsN_cons]
theorem cellsN_setK : ∀ (l : List Nd) (k x y : Nat), k < l.length → ((cellsN l).set (k * 4) (.int .u64 (x : Nat))).set (k * 4 + 1) (.int .u64 (y : Nat)) = cellsN (l.set k { l.getD k default with s := x, o := y })
  | [], k, x, y, h => by simp at h
  | a :: l, 0, x, y, h => by simp [cellsN_cons, Nd.row]
  | a :: l, k + 1, x, y, h => by
    rw [show (k + 1) * 4 = k * 4 + 4 by omega, show k * 4 + 4 + 1 = (k * 4 + 1) + 4 by omega, cellsN_cons, set_four, set_four, cellsN_setK l k x y (by simpa using h)]
    simp [cellsN_cons]
def NodesAt (w : World) (g : Nat) (nds : List Nd) : Prop := w.heap[g]? = some (.cells (cellsN nds).toArray 159 (0, 0))
section
variable {w w' : World} {g k : Nat} {nds : List Nd}
theorem NodesAt.lt (h : NodesAt w g nds) : g < w.heap.size := lt_of_block h
theorem NodesAt.cell (h : NodesAt w g nds) (hk : k < nds.length) : w.cell? ⟨g, k * 4, none⟩ = some (.int .u64 ((nds.getD k default).s : Nat)) ∧ w.cell? ⟨g, k * 4 + 1, none⟩ = some (.int .u64 ((nds.getD k default).o : Nat)) ∧ w.cell? ⟨g, k * 4 + 2, none⟩ = some (.int .u64 ((nds.getD k default).l : Nat)) ∧ w.cell? ⟨g, k * 4 + 3, none⟩ = some (.int .u64 ((nds.getD k default).r : Nat)) := by
  have hc : ∀ i, i < 4 → w.cell? ⟨g, k * 4 + i, none⟩ = (nds.getD k default).row[i]? := fun i hi => by
    unfold World.cell?
    rw [show w.heap[g]? = _ from h]
    simpa using cellsN_at nds k i hk hi
  exact ⟨hc 0 (by omega), hc 1 (by omega), hc 2 (by omega), hc 3 (by omega)⟩
theorem NodesAt.frozen (h : NodesAt w g nds) (i : Nat) : w.frozen? ⟨g, i, none⟩ = false := by
  unfold World.frozen?
  rw [show w.heap[g]? = _ from h]
  simp
theorem NodesAt.later {row : Option Nat} (h : NodesAt w g nds) (hg : w.grownBy w' row) (hr : some g ≠ row) : NodesAt w' g nds := (hg.block g h.lt hr).trans h
theorem NodesAt.setL (h : NodesAt w g nds) (hk : k < nds.length) (v : Nat) : NodesAt (w.setCell ⟨g, k * 4 + 2, none⟩ (.int .u64 (v : Nat))) g (nds.set k { nds.getD k default with l := v }) := by
  unfold NodesAt
  rw [heap_setCell_same h, List.setIfInBounds_toArray, cellsN_setL nds k v hk]
theorem NodesAt.setR (h : NodesAt w g nds) (hk : k < nds.length) (v : Nat) : NodesAt (w.setCell ⟨g, k * 4 + 3, none⟩ (.int .u64 (v : Nat))) g (nds.set k { nds.getD k default with r := v }) := by
  unfold NodesAt
  rw [heap_setCell_same h, List.setIfInBounds_toArray, cellsN_setR nds k v hk]
theorem NodesAt.setK (h : NodesAt w g nds) (hk : k < nds.length) (x y : Nat) : NodesAt ((w.setCell ⟨g, k * 4, none⟩ (.int .u64 (x : Nat))).setCell ⟨g, k * 4 + 1, none⟩ (.int .u64 (y : Nat))) g (nds.set k { nds.getD k default with s := x, o := y }) := by
  unfold NodesAt
  rw [heap_setCell_same (heap_setCell_same h _), List.setIfInBounds_toArray, List.setIfInBounds_toArray, cellsN_setK nds k x y hk]
end
theorem flatK_cells (l : List Nd) : Go.Sort.flatK Nd.row 4 l.toArray = (cellsN l).toArray := by
  apply Array.ext
  · simp [cellsN_len]
  · intro i h1 h2
    simp only [Go.Sort.size_flatK, List.size_toArray] at h1
    have h3 := Go.Sort.get_flatK Nd.row 4 l.toArray i (by simpa using h1)
    rw [getElem!_pos _ i (by simpa using h1)] at h3
    rw [h3]
    have hk : i / 4 < l.length := by omega
    have h4 := cellsN_at l (i / 4) (i % 4) hk (by omega)
    rw [show i / 4 * 4 + i % 4 = i by omega] at h4
    have h5 : l.toArray[i / 4]! = l.getD (i / 4) default := by
      rw [getElem!_pos _ _ (by simpa using hk), List.getD_eq_getElem?_getD, List.getElem?_eq_getElem hk]
      simp
    rw [h5]
    have hlen : i % 4 < (l.getD (i / 4) default).row.length := by show _ < 4; omega
    rw [getElem!_pos (l.getD (i / 4) default).row (i % 4) hlen]
    rw [List.getElem?_eq_getElem hlen] at h4
    have h6 : i < (cellsN l).length := by rw [cellsN_len]; exact h1
    rw [List.getElem?_eq_getElem h6] at h4
    simp only [List.getElem_toArray]
    exact (Option.some.inj h4).symm
def cfN (x y : Nd) : Int := cmpK x.s x.o y.s y.o
theorem ltOf_cfN (x y : Nd) : Go.Proofs.ltOf cfN x y = decide (ltK x.s x.o y.s y.o) := by
  unfold Go.Proofs.ltOf cfN
  by_cases h : ltK x.s x.o y.s y.o
  · rw [cmpK_lt h, decide_eq_true h]; rfl
  · rw [decide_eq_false h]
    rcases cmpK_ge h with e | e <;> rw [e] <;> rfl
theorem swo_cfN : Go.Sort.SWO (Go.Proofs.ltOf cfN) where
  irrefl x := by rw [ltOf_cfN]; exact decide_eq_false (by unfold ltK; omega)
  trans x y z h1 h2 := by
    rw [ltOf_cfN] at *
    have h1 := of_decide_eq_true h1
    have h2 := of_decide_eq_true h2
    exact decide_eq_true (by unfold ltK at *; omega)
  ntrans x y z h1 h2 := by
    rw [ltOf_cfN] at *
    have h1 := of_decide_eq_false h1
    have h2 := of_decide_eq_false h2
    exact decide_eq_false (by unfold ltK at *; omega)
theorem four_cells {w : World} {b : Nat} {x y z u : Value} {t : TypeId} {fr : Nat × Nat} (h : w.heap[b]? = some (.cells #[x, y, z, u] t fr)) : w.cell? ⟨b, 0, none⟩ = some x ∧ w.cell? ⟨b, 1, none⟩ = some y ∧ w.cell? ⟨b, 2, none⟩ = some z ∧ w.cell? ⟨b, 3, none⟩ = some u := by
  refine ⟨?_, ?_, ?_, ?_⟩ <;> simp [World.cell?, h]
set_option maxHeartbeats 1000000 in
theorem shape1_any (x y : Nd) (W : World) : Calls Tryz.prog 123 #[.agg x.row.toArray, .agg y.row.toArray] W fun e w' => e = .returned (.int .i64 (cfN x y)) ∧ ∃ q os', w' = Go.Sort.grow (W.drewN q) os' := by
  obtain ⟨s, o, l, r⟩ := x
  obtain ⟨s', o', l', r'⟩ := y
  unfold cfN
  simp only [Nd.row]
  have hc := fun w => tcompare_any s o s' o' w
  obtain ⟨c, ec⟩ : ∃ c, cmpK s o s' o' = c := ⟨_, rfl⟩
  rw [ec] at hc ⊢
  have ha : ((W.alloc (.cells #[.int .u64 s, .int .u64 o, .int .u64 l, .int .u64 r] 159)).alloc (.cells #[.int .u64 s', .int .u64 o', .int .u64 l', .int .u64 r'] 159)).heap[W.heap.size]? = some (.cells #[.int .u64 s, .int .u64 o, .int .u64 l, .int .u64 r] 159 (0, 0)) := (Below.heap_alloc _ _ _ (by simp)).trans (heap_alloc_new' W _)
  have hb : ((W.alloc (.cells #[.int .u64 s, .int .u64 o, .int .u64 l, .int .u64 r] 159)).alloc (.cells #[.int .u64 s', .int .u64 o', .int .u64 l', .int .u64 r'] 159)).heap[W.heap.size + 1]? = some (.cells #[.int .u64 s', .int .u64 o', .int .u64 l', .int .u64 r'] 159 (0, 0)) := by
    have := heap_alloc_new' (W.alloc (.cells #[.int .u64 s, .int .u64 o, .int .u64 l, .int .u64 r] 159)) (.cells #[.int .u64 s', .int .u64 o', .int .u64 l', .int .u64 r'] 159)
    rwa [World.size_alloc] at this
  obtain ⟨V, hV⟩ : ∃ V, (W.alloc (.cells #[.int .u64 s, .int .u64 o, .int .u64 l, .int .u64 r] 159)).alloc (.cells #[.int .u64 s', .int .u64 o', .int .u64 l', .int .u64 r'] 159) = V := ⟨_, rfl⟩
  rw [hV] at ha hb
  obtain ⟨a0, a1, a2, a3⟩ := four_cells ha
  obtain ⟨b0, b1, b2, b3⟩ := four_cells hb
  clear ha hb ec
  go_enter Tryz.func123, Tryz.ntmps123
  go_wp2_with (first | (go_at_call 124; (with_reducible refine (hc _).mono ?_); rintro e w1 ⟨rfl, q, os, rfl⟩))
  go_ret
  refine ⟨rfl, q, #[.cells #[.int .u64 s, .int .u64 o, .int .u64 l, .int .u64 r] 159, .cells #[.int .u64 s', .int .u64 o', .int .u64 l', .int .u64 r'] 159] ++ os, ?_⟩
  rw [← hV]
  simp only [Go.Sort.alloc_eq_grow, Go.Sort.grow_grow]
  rw [← Go.Sort.grow_grow, ← Go.Sort.grow_grow]
  rfl
section
variable {w w' : World} {g k : Nat} {nds : List Nd}
theorem put_all {F c : Array Value} (h : c.size = F.size) : Go.Sort.putCells id 0 F c = F := by
  unfold Go.Sort.putCells
  apply Array.ext
  · simpa using h
  · intro i h1 h2
    simp only [Array.getElem_mapIdx, Nat.zero_add, Nat.sub_zero, Nat.zero_le, true_and, id]
    rw [if_pos h2, getElem!_pos _ i h2]
set_option maxHeartbeats 1000000 in
theorem sort_any (h : NodesAt w g nds) (hl : nds.length ≤ 1000000) (cap : Nat) :
    Calls Tryz.prog 122 #[.slice (some ⟨g, 0, none⟩) nds.length cap, .func (.func 123) #[] #[]] w fun e w' => e = .returned (.tuple #[]) ∧ ∃ nd', NodesAt w' g nd' ∧ nd'.Perm nds ∧ nd'.Pairwise (fun x y => ¬ ltK y.s y.o x.s x.o) ∧ w.grownBy w' (some g) := by
  have eg : ∀ args w, (callFunc 123 args).run Tryz.prog w = .ok (.enter 123 args) w := enters_of Tryz.func123 (by kernel_rfl) rfl
  have hH : Go.Sort.HoldsK Nd.row 4 w g 0 nds.toArray := by
    unfold Go.Sort.HoldsK
    rw [flatK_cells]
    intro j hj
    rw [Nat.zero_add]
    refine ⟨?_, h.frozen j⟩
    unfold World.cell?
    rw [show w.heap[g]? = _ from h]
    simp only [Option.isSome_none, Bool.false_eq_true, if_false, id]
    rw [getElem!_pos _ j hj, Array.getElem?_eq_getElem hj]
  have hcmp : Go.Proofs.CmpLays Tryz.prog 123 #[] Nd.row 4 cfN g 0 nds.toArray.size w := fun m os dk hs x y => shape1_any x y _
  have hcon := Go.Proofs.AnyQ.slices_SortFunc sortNode 4 Tryz.isAgg159 Tryz.sizeOf159 Nd.row (fun _ => rfl) (fun x v hv => by simp [Nd.row] at hv; rcases hv with rfl | rfl | rfl | rfl <;> rfl) cfN swo_cfN 123 #[] g 0 cap nds.toArray w eg hcmp hH h.lt (by simp; omega)
  have hcon2 : Calls Tryz.prog 122 #[.slice (some ⟨g, 0, none⟩) nds.length cap, .func (.func 123) #[] #[]] w _ := hcon
  refine hcon2.mono ?_
  rintro e w' ⟨rfl, d', n, os, hp, hs, rfl⟩
  obtain ⟨p1, p2, p3⟩ := hp
  have hsz : d'.size = nds.length := by simpa using p1
  have hb : (Go.Proofs.sortWorldK Nd.row 4 w g 0 n d' os).heap[g]? = some (.cells (cellsN d'.toList).toArray 159 (0, 0)) := by
    show ((w.heap.modify g (Go.Sort.onCells (Go.Sort.putCells id 0 (Go.Sort.flatK Nd.row 4 d')))) ++ os)[g]? = _
    rw [Array.getElem?_append_left (by simpa using h.lt), Array.getElem?_modify, if_pos rfl, show w.heap[g]? = _ from h]
    simp only [Option.map_some, Go.Sort.onCells]
    rw [put_all (by simp [cellsN_len, hsz])]
    have := flatK_cells d'.toList
    simp only [Array.toArray_toList] at this
    rw [this]
  refine ⟨rfl, d'.toList, hb, ?_, ?_, ?_⟩
  · have h3 : (d'.extract 0 nds.toArray.size).toList.Perm (nds.toArray.extract 0 nds.toArray.size).toList := p3
    have e1 : d'.extract 0 nds.toArray.size = d' := by rw [← p1]; exact Array.extract_size
    rw [e1] at h3
    simpa using h3
  · rw [List.pairwise_iff_getElem]
    intro i j hi hj hij
    have h3 := hs i j (Nat.zero_le _) hij (by simp at hj ⊢; omega)
    have hi' : i < d'.size := by simpa using hi
    have hj' : j < d'.size := by simpa using hj
    rw [ltOf_cfN, getElem!_pos _ j hj', getElem!_pos _ i hi'] at h3
    have h4 := of_decide_eq_false h3
    simpa using h4
  · refine ⟨rfl, rfl, rfl, ?_, fun i hi hne => ?_⟩
    · show w.heap.size ≤ ((w.heap.modify g _) ++ os).size
      simp
    · show ((w.heap.modify g (Go.Sort.onCells (Go.Sort.putCells id 0 (Go.Sort.flatK Nd.row 4 d')))) ++ os)[i]? = _
      rw [Array.getElem?_append_left (by simpa using hi), Array.getElem?_modify, if_neg (fun e => hne (by rw [e]))]
end
end Go.Proofs.YtmcnpenihoaajaaGreat
namespace Go.Proofs.YtmcnpenihoaajaaGreat
open Go.RowKit
def Spine (g : Nat → Nat) : Nat → List Nat → Nat → List Nat → Prop
  | a, [], b, l => a = b ∧ l = []
  | a, e :: es, b, l => g a = e ∧ e ≠ 0 ∧ ∃ A r, l = A ++ e :: r ∧ TreeOf g rkN (g (e + 8)) A ∧ (∀ x, x ∈ A → rkN x < rkN e) ∧ (∀ x, x ∈ r → rkN x < rkN e) ∧ Spine g (e + 16) es b r
section
variable {g g' : Nat → Nat} {F : List Nat}
theorem Spine.close : ∀ {es : List Nat} {a b : Nat} {l m : List Nat}, Spine g a es b l → TreeOf g rkN (g b) m → (∀ y, y ∈ m → ∀ e, e ∈ es → rkN y < rkN e) → TreeOf g rkN (g a) (l ++ m)
  | [], a, b, l, m, h, ht, _ => by obtain ⟨rfl, rfl⟩ := h; simpa using ht
  | e :: es, a, b, l, m, h, ht, hm => by
    obtain ⟨h1, h0, A, r, rfl, tA, hA, hr, hs⟩ := h
    have ih := Spine.close hs ht fun y hy e' he' => hm y hy e' (by simp [he'])
    rw [h1]
    have := TreeOf.node (L := A) (R := r ++ m) h0 hA (fun x hx => by
      rcases List.mem_append.1 hx with hx | hx
      · exact hr x hx
      · exact hm x hx e (by simp)) tA ih
    simpa using this
theorem Spine.split : ∀ {es fs : List Nat} {a b : Nat} {l : List Nat}, Spine g a (es ++ fs) b l → ∃ c l1 l2, Spine g a es c l1 ∧ Spine g c fs b l2 ∧ l = l1 ++ l2
  | [], fs, a, b, l, h => ⟨a, [], l, ⟨rfl, rfl⟩, h, rfl⟩
  | e :: es, fs, a, b, l, h => by
    obtain ⟨h1, h0, A, r, rfl, tA, hA, hr, hs⟩ := h
    obtain ⟨c, l1, l2, k1, k2, rfl⟩ := Spine.split hs
    refine ⟨c, A ++ e :: l1, l2, ⟨h1, h0, A, l1, rfl, tA, hA, fun x hx => hr x (by simp [hx]), k1⟩, k2, by simp⟩
theorem Spine.snoc : ∀ {es : List Nat} {a b n : Nat} {l A : List Nat}, Spine g a es b l → g b = n → n ≠ 0 → TreeOf g rkN (g (n + 8)) A → (∀ x, x ∈ A → rkN x < rkN n) → (∀ y, y ∈ A ++ [n] → ∀ e, e ∈ es → rkN y < rkN e) → Spine g a (es ++ [n]) (n + 16) (l ++ (A ++ [n]))
  | [], a, b, n, l, A, h, hb, h0, tA, hA, _ => by
    obtain ⟨rfl, rfl⟩ := h
    exact ⟨hb, h0, A, [], by simp, tA, hA, by simp, rfl, rfl⟩
  | e :: es, a, b, n, l, A, h, hb, h0, tA, hA, hm => by
    obtain ⟨h1, h0', A', r, rfl, tA', hA', hr, hs⟩ := h
    refine ⟨h1, h0', A', r ++ (A ++ [n]), by simp, tA', hA', fun x hx => ?_, Spine.snoc hs hb h0 tA hA fun y hy e' he' => hm y hy e' (by simp [he'])⟩
    rcases List.mem_append.1 hx with hx | hx
    · exact hr x hx
    · exact hm x hx e (by simp)
theorem Spine.link : ∀ {es : List Nat} {a b : Nat} {l : List Nat}, Spine g a es b l → (es = [] ∧ b = a) ∨ ∃ e, es.getLast? = some e ∧ b = e + 16
  | [], a, b, l, h => .inl ⟨rfl, h.1.symm⟩
  | [e], a, b, l, h => by
    obtain ⟨_, _, A, r, _, _, _, _, hs⟩ := h
    exact .inr ⟨e, rfl, hs.1.symm⟩
  | e :: e' :: es, a, b, l, h => by
    obtain ⟨_, _, A, r, _, _, _, _, hs⟩ := h
    rcases hs.link with h1 | ⟨x, h1, h2⟩
    · exact absurd h1.1 (by simp)
    · exact .inr ⟨x, by simpa using h1, h2⟩
theorem Spine.sub : ∀ {es : List Nat} {a b : Nat} {l : List Nat}, Spine g a es b l → ∀ e, e ∈ es → e ∈ l
  | [], a, b, l, h, e, he => by simp at he
  | e :: es, a, b, l, h, x, hx => by
    obtain ⟨_, _, A, r, rfl, _, _, _, hs⟩ := h
    rcases List.mem_cons.1 hx with rfl | hx
    · simp
    · have := hs.sub x hx; simp [this]
theorem Spine.frame : ∀ {es : List Nat} {a b : Nat} {l : List Nat}, Spine g a es b l → (a ≠ b → g' a = g a) → (∀ x, x ∈ l → g' (x + 8) = g (x + 8) ∧ (x + 16 ≠ b → g' (x + 16) = g (x + 16))) → (∀ x, x ∈ l → x + 8 ≠ b ∧ a ≠ x + 16) → l.Nodup → (∀ x y, x ∈ l → y ∈ l → x ≠ y → x + 24 ≤ y ∨ y + 24 ≤ x) → Spine g' a es b l
  | [], a, b, l, h, _, _, _, _, _ => h
  | e :: es, a, b, l, h, ha, hl, hb, hn, hf => by
    have hlk := h.link
    obtain ⟨h1, h0, A, r, rfl, tA, hA, hr, hs⟩ := h
    obtain ⟨n1, n2, n3⟩ := List.nodup_append.1 hn
    have n4 := List.nodup_cons.1 n2
    have hab : a ≠ b := by
      rcases hlk with h2 | ⟨x, h2, h3⟩
      · exact absurd h2.1 (by simp)
      · have hx := Spine.sub (g := g) (a := a) (b := b) (l := A ++ e :: r) (es := e :: es) ⟨h1, h0, A, r, rfl, tA, hA, hr, hs⟩ x (List.mem_of_getLast? h2)
        have := (hb x hx).2
        omega
    refine ⟨(ha hab).trans h1, h0, A, r, rfl, ?_, hA, hr, ?_⟩
    · rw [(hl e (by simp)).1]
      refine tA.frame fun x hx => ⟨(hl x (by simp [hx])).1, (hl x (by simp [hx])).2 fun e2 => ?_⟩
      rcases hlk with h2 | ⟨y, h2, h3⟩
      · exact absurd h2.1 (by simp)
      · have hy : y ∈ e :: r := by
          have := List.mem_of_getLast? h2
          rcases List.mem_cons.1 this with rfl | hy
          · simp
          · have := hs.sub y hy; simp [this]
        have : x = y := by omega
        exact n3 x hx y hy this
    · refine Spine.frame hs (fun e2 => (hl e (by simp)).2 e2) (fun x hx => hl x (by simp [hx])) (fun x hx => ⟨(hb x (by simp [hx])).1, ?_⟩) n4.2 (fun x y hx hy => hf x y (by simp [hx]) (by simp [hy]))
      have hne : e ≠ x := fun e2 => n4.1 (e2 ▸ hx)
      omega
def popL (E : List Nat) (k : Nat) : Nat := E.getD k 0
def lkE (E : List Nat) (k : Nat) : Nat := if k = 0 then 32 else E.getD (k - 1) 0 + 16
theorem spine_pop {E l : List Nat} {b n k : Nat} (hF : FreeL F) (h : Spine g 32 E b l) (hb : g b = 0) (hl : ∀ x, x ∈ l → x ∈ F) (hn : n ∈ F) (hnl : n ∉ l) (hnd : l.Nodup) (hk : k ≤ E.length)
    (hp : ∀ j, k ≤ j → j < E.length → rkN (E.getD j 0) < rkN n) (hs : k = 0 ∨ rkN n < rkN (E.getD (k - 1) 0)) (h16 : g (n + 16) = 0)
    (hg : ∀ q, q ≠ n + 8 → q ≠ lkE E k → g' q = g q) (hg8 : g' (n + 8) = popL E k) (hgl : g' (lkE E k) = n) : Spine g' 32 (E.take k ++ [n]) (n + 16) (l ++ [n]) ∧ g' (n + 16) = 0 := by
  have hn0 : n ≠ 0 := by have := hF.on n hn; omega
  have hE : E.take k ++ E.drop k = E := List.take_append_drop k E
  rw [← hE] at h
  obtain ⟨c, l1, l2, s1, s2, rfl⟩ := h.split
  have hc : c = lkE E k := by
    unfold lkE
    rcases s1.link with ⟨h1, h2⟩ | ⟨e, h1, h2⟩
    · have : k = 0 := by
        have := congrArg List.length h1
        simp at this
        rcases this with h3 | h3
        · exact h3
        · rw [h3] at hk; simp at hk; exact hk
      rw [if_pos this, h2]
    · have hk0 : k ≠ 0 := by rintro rfl; simp at h1
      rw [if_neg hk0, h2]
      congr 1
      rw [List.getLast?_eq_getElem?, List.length_take, Nat.min_eq_left hk, List.getElem?_take, if_pos (by omega)] at h1
      rw [List.getD_eq_getElem?_getD, h1]; rfl
  rw [← hc] at hg hgl
  have far : ∀ x y, x ∈ l1 ++ l2 → y ∈ l1 ++ l2 → x ≠ y → x + 24 ≤ y ∨ y + 24 ≤ x := fun x y hx hy hne => by have := hF.far (hl x hx) (hl y hy) hne; omega
  have farn : ∀ x, x ∈ l1 ++ l2 → x + 24 ≤ n ∨ n + 24 ≤ x := fun x hx => by have := hF.far (hl x hx) hn (fun e => hnl (e ▸ hx)); omega
  have c32 : ∀ x, x ∈ F → x + 8 ≠ 32 ∧ x + 16 ≠ 32 := fun x hx => by have := hF.on x hx; omega
  have hcl : c = 32 ∨ ∃ e, e ∈ l1 ∧ c = e + 16 := by
    rcases s1.link with ⟨h1, h2⟩ | ⟨e, h1, h2⟩
    · exact .inl h2
    · exact .inr ⟨e, s1.sub e (List.mem_of_getLast? h1), h2⟩
  have hcn : c ≠ n + 8 ∧ c ≠ n + 16 := by
    rcases hcl with e | ⟨y, hy, e⟩
    · have := c32 n hn; omega
    · have := farn y (by simp [hy]); omega
  obtain ⟨nd1, nd2, nd3⟩ := List.nodup_append.1 hnd
  have hc2 : ∀ x, x ∈ l2 → x + 8 ≠ c ∧ x + 16 ≠ c := fun x hx => by
    rcases hcl with e | ⟨y, hy, e⟩
    · have := c32 x (hl x (by simp [hx])); omega
    · have := far x y (by simp [hx]) (by simp [hy]) (fun e2 => nd3 y hy x hx e2.symm)
      omega
  have t2 : TreeOf g rkN (g c) l2 := by
    have := s2.close (m := []) (by rw [hb]; exact TreeOf.nil) (by simp)
    simpa using this
  have hroot : g c = popL E k := by
    unfold popL
    cases hd : E.drop k with
    | nil =>
      rw [hd] at s2
      have hkE : k = E.length := by
        have := congrArg List.length hd
        simp at this
        omega
      rw [s2.1, hb, hkE, List.getD_eq_getElem?_getD, List.getElem?_eq_none (Nat.le_refl _)]; rfl
    | cons e es =>
      rw [hd] at s2
      have h3 := List.getElem?_drop (xs := E) (i := k) (j := 0)
      rw [hd] at h3
      rw [List.getD_eq_getElem?_getD, show E[k]? = some e by simpa using h3.symm]
      exact s2.1
  have t2' : TreeOf g' rkN (g' (n + 8)) l2 := by
    rw [hg8, ← hroot]
    refine t2.frame fun x hx => ?_
    have h3 := farn x (by simp [hx])
    have h4 := hc2 x hx
    exact ⟨hg _ (by omega) h4.1, hg _ (by omega) h4.2⟩
  have hlt : ∀ x, x ∈ l2 → rkN x < rkN n := fun x hx => by
    have h3 := rank_le t2 hx
    rw [hroot] at h3
    unfold popL at h3
    by_cases hkE : k < E.length
    · have := hp k (Nat.le_refl _) hkE; omega
    · have : E.drop k = [] := List.drop_eq_nil_of_le (by omega)
      rw [this] at s2
      rw [s2.2] at hx; simp at hx
  have hgt : ∀ e, e ∈ E.take k → rkN n < rkN e := by
    intro e he
    rcases hs with rfl | hs
    · simp at he
    · -- ranks fall along the edge
      have hfall : ∀ (es : List Nat) (a b : Nat) (l : List Nat), Spine g a es b l → ∀ e, e ∈ es → ∀ x, es.getLast? = some x → rkN x ≤ rkN e := by
        intro es
        induction es with
        | nil => intro a b l _ e he; simp at he
        | cons y es ih =>
          intro a b l hsp e he x hx
          obtain ⟨_, _, A, r, _, _, _, hr, hs'⟩ := hsp
          cases es with
          | nil =>
            have h1 : e = y := by simpa using he
            have h2 : y = x := by simpa using hx
            rw [h1, h2]; exact Nat.le_refl _
          | cons y' es =>
            have hx' : (y' :: es).getLast? = some x := by simpa using hx
            rcases List.mem_cons.1 he with rfl | he
            · exact Nat.le_of_lt (hr x (hs'.sub x (List.mem_of_getLast? hx')))
            · exact ih _ _ _ hs' e he x hx'
      have hk0 : k ≠ 0 := by rintro rfl; simp at he
      have hx : (E.take k).getLast? = some (E.getD (k - 1) 0) := by
        rw [List.getLast?_eq_getElem?, List.length_take, Nat.min_eq_left hk, List.getElem?_take, if_pos (by omega), List.getD_eq_getElem?_getD, List.getElem?_eq_getElem (by omega)]; rfl
      have := hfall _ _ _ _ s1 e he _ hx
      omega
  have s1' : Spine g' 32 (E.take k) c l1 := by
    refine s1.frame (fun e => hg 32 (by have := c32 n hn; omega) e) (fun x hx => ?_) (fun x hx => ?_) nd1 (fun x y hx hy => far x y (by simp [hx]) (by simp [hy]))
    · have h3 := farn x (by simp [hx])
      refine ⟨hg _ (by omega) ?_, fun e => hg _ (by omega) e⟩
      rcases hcl with e | ⟨y, hy, e⟩
      · have := c32 x (hl x (by simp [hx])); omega
      · by_cases hxy : x = y
        · omega
        · have := far x y (by simp [hx]) (by simp [hy]) hxy; omega
    · have h4 := c32 x (hl x (by simp [hx]))
      refine ⟨?_, by omega⟩
      rcases hcl with e | ⟨y, hy, e⟩
      · omega
      · by_cases hxy : x = y
        · omega
        · have := far x y (by simp [hx]) (by simp [hy]) hxy; omega
  refine ⟨?_, by rw [hg _ (by omega) (by omega), h16]⟩
  have := s1'.snoc hgl hn0 t2' hlt fun y hy e he => by
    rcases List.mem_append.1 hy with hy | hy
    · have h5 := hlt y hy; have h6 := hgt e he; omega
    · have : y = n := by simpa using hy
      rw [this]; exact hgt e he
  simpa using this
end
end Go.Proofs.YtmcnpenihoaajaaGreat
namespace Go.Proofs.YtmcnpenihoaajaaGreat
open Go.RowKit
set_option maxRecDepth 100000
theorem info_node : (Tryz.prog.info? 159).map (fun i => (i.zero, i.size, i.bytes)) = some (some (.agg #[.int .u64 0, .int .u64 0, .int .u64 0, .int .u64 0]), 4, 32) := by kernel_rfl
theorem info_nptr : (Tryz.prog.info? 203).map (fun i => (i.zero, i.size, i.bytes)) = some (some (.pointer none), 1, 8) := by kernel_rfl
theorem made_nodes (n : Nat) : madeCells (#[.int .u64 0, .int .u64 0, .int .u64 0, .int .u64 0] : Array Value) (n * 4) = (cellsN (List.replicate n default)).toArray := by
  apply Array.ext
  · simp [size_madeCells, cellsN_len]
  · intro i h1 h2
    rw [size_madeCells] at h1
    have h4 := cellsN_at (List.replicate n default) (i / 4) (i % 4) (by simp; omega) (by omega)
    rw [show i / 4 * 4 + i % 4 = i by omega] at h4
    have h5 : (List.replicate n (default : Nd)).getD (i / 4) default = default := by
      rw [List.getD_eq_getElem?_getD, List.getElem?_replicate]
      split <;> rfl
    rw [h5] at h4
    have h6 : i < (cellsN (List.replicate n default)).length := by simpa using h2
    rw [List.getElem?_eq_getElem h6] at h4
    simp only [List.getElem_toArray, madeCells, Array.getElem_map, Array.getElem_range]
    have hi4 : i % 4 = 0 ∨ i % 4 = 1 ∨ i % 4 = 2 ∨ i % 4 = 3 := by omega
    show (#[.int .u64 0, .int .u64 0, .int .u64 0, .int .u64 0] : Array Value)[i % 4]! = _
    rcases hi4 with e | e | e | e <;> rw [e] at h4 ⊢ <;> exact (Option.some.inj h4).symm
theorem make_nodes (n : Nat) (hn : n ≤ 1000000) (w : World) :
    (Instr.makeSlice 153 (.int .i64 n) (.int .i64 n)).run Tryz.prog w = .ok (.slice (some ⟨w.heap.size, 0, none⟩) n n) (w.alloc (.cells (cellsN (List.replicate n default)).toArray 159)) := by
  obtain ⟨i, hi, hz, hs, hb⟩ := info_parts info_node
  have h := run_make (P := Tryz.prog) w 153 159 i _ Tryz.underlying153 hi hz .i64 .i64 n n (by omega) (Int.le_refl _) (by rw [hb]; omega) (by omega)
  rw [h, hs]
  simp only [Int.toNat_natCast]
  rw [show (Value.agg #[.int .u64 0, .int .u64 0, .int .u64 0, .int .u64 0]).cells = #[.int .u64 0, .int .u64 0, .int .u64 0, .int .u64 0] from rfl, made_nodes]
def ndS (z : Nat → Nat) (L : List Nat) : Nat → List Nd
  | 0 => List.replicate L.length default
  | i + 1 => (ndS z L i).set i { (ndS z L i).getD i default with s := z (L.getD i 0), o := L.getD i 0 }
theorem ndS_len (z : Nat → Nat) (L : List Nat) : ∀ i, (ndS z L i).length = L.length
  | 0 => by simp [ndS]
  | i + 1 => by simp [ndS, ndS_len z L i]
theorem ndS_get (z : Nat → Nat) (L : List Nat) : ∀ i j, i ≤ L.length → j < L.length → (ndS z L i).getD j default = if j < i then ⟨z (L.getD j 0), L.getD j 0, 0, 0⟩ else default
  | 0, j, _, hj => by
    rw [if_neg (by omega)]
    unfold ndS
    rw [List.getD_eq_getElem?_getD, List.getElem?_replicate]
    split <;> rfl
  | i + 1, j, hi, hj => by
    unfold ndS
    rw [List.getD_eq_getElem?_getD, List.getElem?_set]
    by_cases e : i = j
    · subst e
      rw [if_pos rfl, if_pos (by rw [ndS_len]; omega), if_pos (by omega), ndS_get z L i i (by omega) hj, if_neg (by omega)]
      rfl
    · rw [if_neg e, ← List.getD_eq_getElem?_getD, ndS_get z L i j (by omega) hj]
      by_cases e2 : j < i
      · rw [if_pos e2, if_pos (by omega)]
      · rw [if_neg e2, if_neg (by omega)]
theorem ndS_all (z : Nat → Nat) (L : List Nat) : ndS z L L.length = L.map fun x => ⟨z x, x, 0, 0⟩ := by
  apply List.ext_getElem
  · simp [ndS_len]
  · intro i h1 h2
    rw [ndS_len] at h1
    have := ndS_get z L L.length i (Nat.le_refl _) h1
    rw [if_pos h1, List.getD_eq_getElem?_getD, List.getElem?_eq_getElem (by rw [ndS_len]; exact h1)] at this
    simp only [Option.getD_some] at this
    rw [this, List.getElem_map]
    rw [List.getD_eq_getElem?_getD, List.getElem?_eq_getElem h1]
    rfl
def ptrs (ab g : Nat) (es : List Nat) : List Value := .pointer (some ⟨ab, 0, none⟩) :: es.map fun i => .pointer (some ⟨g, i * 4, none⟩)
theorem ptrs_len (ab g : Nat) (es : List Nat) : (ptrs ab g es).length = es.length + 1 := by simp [ptrs]
theorem ptrs_take (ab g : Nat) (es : List Nat) (k : Nat) : (ptrs ab g es).take (k + 1) = ptrs ab g (es.take k) := by simp [ptrs, List.map_take]
theorem ptrs_snoc (ab g : Nat) (es : List Nat) (i : Nat) : ptrs ab g es ++ [.pointer (some ⟨g, i * 4, none⟩)] = ptrs ab g (es ++ [i]) := by simp [ptrs]
def OwnE (w : World) (base : Nat) (v : Value) (ab g : Nat) (es : List Nat) : Prop := w.ownsRow base 203 1 v (es.length + 1) (ptrs ab g es)
section
variable {w w' : World} {base ab g : Nat} {v : Value} {es : List Nat}
theorem OwnE.form (h : OwnE w base v ab g es) : ∃ eb cap cur, v = .slice (some ⟨eb, 0, none⟩) (es.length + 1) cap ∧ base ≤ eb ∧ es.length + 1 ≤ cap ∧ w.heap[eb]? = some (.cells cur 203 (0, 0)) ∧ w.cell? ⟨eb, 0, none⟩ = some (.pointer (some ⟨ab, 0, none⟩)) ∧ ∀ j, j < es.length → w.cell? ⟨eb, j + 1, none⟩ = some (.pointer (some ⟨g, es.getD j 0 * 4, none⟩)) := by
  obtain ⟨h1, h2 | ⟨eb, cap, cur, rfl, hb, hh, hn, hc, hs, ht⟩⟩ := h
  · have := h2.2; omega
  · have hcell : ∀ j, j < es.length + 1 → w.cell? ⟨eb, j, none⟩ = (ptrs ab g es)[j]? := fun j hj => by
      unfold World.cell?
      rw [hh]
      simp only [Option.isSome_none, Bool.false_eq_true, if_false]
      rw [← ht, List.getElem?_take, if_pos (by omega)]
      simp
    refine ⟨eb, cap, cur, rfl, hb, hn, hh, hcell 0 (by omega), fun j hj => ?_⟩
    rw [hcell (j + 1) (by omega)]
    show (es.map fun i => Value.pointer (some ⟨g, i * 4, none⟩))[j]? = _
    rw [List.getElem?_map, List.getD_eq_getElem?_getD, List.getElem?_eq_getElem hj]
    rfl
theorem OwnE.take {a : Option Addr} {m cap : Nat} (h : OwnE w base (.slice a m cap) ab g es) (k : Nat) (hk : k ≤ es.length) : OwnE w base (.slice a (k + 1) cap) ab g (es.take k) := by
  obtain ⟨h1, h2 | ⟨eb, cap', cur, hv, hb, hh, hn, hc, hs, ht⟩⟩ := h
  · have := h2.2; omega
  · injection hv with e1 e2 e3
    subst e1 e3
    have hlen : (es.take k).length = k := by simp; omega
    unfold OwnE
    rw [hlen]
    refine ⟨by rw [ptrs_len, hlen]; omega, .inr ⟨eb, cap, cur, rfl, hb, hh, by omega, hc, hs, ?_⟩⟩
    rw [← ptrs_take, ← ht, List.take_take]
    congr 1
    omega
end
theorem wpList_append_nptr {w2 : World} {ops : Array Oper} {rest : List Oper} {o : Oper} {a : Act} {Q : Exit → Act → World → Prop} (hgd : o.guard = none) (s x : Operand)
    (ho : o.op = .call { callee := .builtin .append, args := #[s, x], argTypes := #[204, 204] })
    (base : Nat) (v : Value) (n : Nat) (xs : List Value) (hs : a.eval s = v) (hown : w2.ownsRow base 203 1 v n xs) (y : Option Addr)
    (hx : a.eval x = .slice (some ⟨w2.heap.size, 0, none⟩) 1 1) (hn : n ≤ 1000000000) (hbase : base ≤ w2.heap.size)
    (h : ∀ v' w', w'.ownsRow base 203 1 v' (n + 1) (xs ++ [.pointer y]) → (w2.alloc (.cells #[.pointer y] 203)).grownBy w' v.ownBlock → (v'.ownBlock = v.ownBlock ∨ v'.ownBlock = some (w2.heap.size + 1)) → wpList Tryz.prog ops Q rest (a.put o.dst v') w') :
    wpList Tryz.prog ops Q (o :: rest) a (w2.alloc (.cells #[.pointer y] 203)) := by
  obtain ⟨i0, hi, hz0, hz1, hz2⟩ := info_parts info_nptr
  refine wpList_append_own_at _ hgd s x 204 ho base 203 i0 (.pointer none) 1 8 Tryz.underlying204 hi hz0 hz1 hz2 rfl (by decide) v n xs hs (hown.alloc _) ⟨w2.heap.size, 0, none⟩ 1 1 [.pointer y] hx rfl ?_ ?_ ?_ ?_ ?_ fun v' w' h1 h2 _ h4 => h v' w' h1 h2 (by rw [World.size_alloc] at h4; exact h4)
  · intro j u hj
    rcases j with _ | j
    · simp at hj
      subst hj
      exact World.cell?_alloc_at _ _ _ _ rfl
    · simp at hj
  · intro u hu
    simp at hu
    subst hu
    rfl
  · unfold maxLen; omega
  · omega
  · rw [World.size_alloc]; omega
end Go.Proofs.YtmcnpenihoaajaaGreat
