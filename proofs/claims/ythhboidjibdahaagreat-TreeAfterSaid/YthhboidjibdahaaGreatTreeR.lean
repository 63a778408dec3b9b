/-
  Rows of pointers to nodes, nodes that are made, and their keys laid one behind the other.
  No condition.
-/
import Derived.Test.YthhboidjibdahaaGreatTreeQ
import Derived.Test.YthhboidjibdahaaGreatTreeT
import Derived.Test.YthhboidjibdahaaGreatTreeA
import Derived.Test.YthhboidjibdahaaGreatLTx
namespace Go.Proofs.YthhboidjibdahaaGreat
open Go.RowKit
set_option linter.unusedVariables false
set_option linter.unusedSimpArgs false
set_option maxRecDepth 100000

theorem info_node : (Tryz.prog.info? 72).map (fun i => (i.zero, i.size, i.bytes)) = some (some (.agg #[.int .u64 0, .int .u64 0, .int .u64 0, .int .u64 0]), 4, 32) := by kernel_rfl
theorem info_nptr : (Tryz.prog.info? 107).map (fun i => (i.zero, i.size, i.bytes)) = some (some (.pointer none), 1, 8) := by kernel_rfl
theorem made_nodes (n : Nat) : madeCells (#[.int .u64 0, .int .u64 0, .int .u64 0, .int .u64 0] : Array Value) (n * 4) = (cellsN (List.replicate n default)).toArray := by
  apply Array.ext
  · simp [size_madeCells, cellsN_len]
  · intro i h1 h2
    rw [size_madeCells] at h1
    have h4 := cellsN_at (List.replicate n default) (i / 4) (i % 4) (by simp; omega) (by omega)
    rw [show i / 4 * 4 + i % 4 = i by omega] at h4
    have h5 : (List.replicate n (default : Nd)).getD (i / 4) default = default := by
      rw [List.getD_eq_getElem?_getD, List.getElem?_replicate]
      split <;> rfl
    rw [h5] at h4
    have h6 : i < (cellsN (List.replicate n default)).length := by simpa using h2
    rw [List.getElem?_eq_getElem h6] at h4
    simp only [List.getElem_toArray, madeCells, Array.getElem_map, Array.getElem_range]
    have hi4 : i % 4 = 0 ∨ i % 4 = 1 ∨ i % 4 = 2 ∨ i % 4 = 3 := by omega
    show (#[.int .u64 0, .int .u64 0, .int .u64 0, .int .u64 0] : Array Value)[i % 4]! = _
    rcases hi4 with e | e | e | e <;> rw [e] at h4 ⊢ <;> exact (Option.some.inj h4).symm
theorem make_nodes (n : Nat) (hn : n ≤ 1000000) (w : World) :
    (Instr.makeSlice 68 (.int .i64 n) (.int .i64 n)).run Tryz.prog w = .ok (.slice (some ⟨w.heap.size, 0, none⟩) n n) (w.alloc (.cells (cellsN (List.replicate n default)).toArray 72)) := by
  obtain ⟨i, hi, hz, hs, hb⟩ := info_parts info_node
  have h := run_make (P := Tryz.prog) w 68 72 i _ Tryz.underlying68 hi hz .i64 .i64 n n (by omega) (Int.le_refl _) (by rw [hb]; omega) (by omega)
  rw [h, hs]
  simp only [Int.toNat_natCast]
  rw [show (Value.agg #[.int .u64 0, .int .u64 0, .int .u64 0, .int .u64 0]).cells = #[.int .u64 0, .int .u64 0, .int .u64 0, .int .u64 0] from rfl, made_nodes]
/-- the nodes with so many keys laid -/
def ndS (z : Nat → Nat) (L : List Nat) : Nat → List Nd
  | 0 => List.replicate L.length default
  | i + 1 => (ndS z L i).set i { (ndS z L i).getD i default with s := z (L.getD i 0), o := L.getD i 0 }
theorem ndS_len (z : Nat → Nat) (L : List Nat) : ∀ i, (ndS z L i).length = L.length
  | 0 => by simp [ndS]
  | i + 1 => by simp [ndS, ndS_len z L i]
theorem ndS_get (z : Nat → Nat) (L : List Nat) : ∀ i j, i ≤ L.length → j < L.length → (ndS z L i).getD j default = if j < i then ⟨z (L.getD j 0), L.getD j 0, 0, 0⟩ else default
  | 0, j, _, hj => by
    rw [if_neg (by omega)]
    unfold ndS
    rw [List.getD_eq_getElem?_getD, List.getElem?_replicate]
    split <;> rfl
  | i + 1, j, hi, hj => by
    unfold ndS
    rw [List.getD_eq_getElem?_getD, List.getElem?_set]
    by_cases e : i = j
    · subst e
      rw [if_pos rfl, if_pos (by rw [ndS_len]; omega), if_pos (by omega), ndS_get z L i i (by omega) hj, if_neg (by omega)]
      rfl
    · rw [if_neg e, ← List.getD_eq_getElem?_getD, ndS_get z L i j (by omega) hj]
      by_cases e2 : j < i
      · rw [if_pos e2, if_pos (by omega)]
      · rw [if_neg e2, if_neg (by omega)]
theorem ndS_all (z : Nat → Nat) (L : List Nat) : ndS z L L.length = L.map fun x => ⟨z x, x, 0, 0⟩ := by
  apply List.ext_getElem
  · simp [ndS_len]
  · intro i h1 h2
    rw [ndS_len] at h1
    have := ndS_get z L L.length i (Nat.le_refl _) h1
    rw [if_pos h1, List.getD_eq_getElem?_getD, List.getElem?_eq_getElem (by rw [ndS_len]; exact h1)] at this
    simp only [Option.getD_some] at this
    rw [this, List.getElem_map]
    rw [List.getD_eq_getElem?_getD, List.getElem?_eq_getElem h1]
    rfl
/-- pointers to a node of its own, and to these nodes of a row -/
def ptrs (ab g : Nat) (es : List Nat) : List Value := .pointer (some ⟨ab, 0, none⟩) :: es.map fun i => .pointer (some ⟨g, i * 4, none⟩)
theorem ptrs_len (ab g : Nat) (es : List Nat) : (ptrs ab g es).length = es.length + 1 := by simp [ptrs]
theorem ptrs_take (ab g : Nat) (es : List Nat) (k : Nat) : (ptrs ab g es).take (k + 1) = ptrs ab g (es.take k) := by simp [ptrs, List.map_take]
theorem ptrs_snoc (ab g : Nat) (es : List Nat) (i : Nat) : ptrs ab g es ++ [.pointer (some ⟨g, i * 4, none⟩)] = ptrs ab g (es ++ [i]) := by simp [ptrs]
/-- the right edge: a row of such pointers -/
def OwnE (w : World) (base : Nat) (v : Value) (ab g : Nat) (es : List Nat) : Prop := w.ownsRow base 107 1 v (es.length + 1) (ptrs ab g es)
section
variable {w w' : World} {base ab g : Nat} {v : Value} {es : List Nat}
theorem OwnE.form (h : OwnE w base v ab g es) : ∃ eb cap cur, v = .slice (some ⟨eb, 0, none⟩) (es.length + 1) cap ∧ base ≤ eb ∧ es.length + 1 ≤ cap ∧ w.heap[eb]? = some (.cells cur 107 (0, 0)) ∧ w.cell? ⟨eb, 0, none⟩ = some (.pointer (some ⟨ab, 0, none⟩)) ∧ ∀ j, j < es.length → w.cell? ⟨eb, j + 1, none⟩ = some (.pointer (some ⟨g, es.getD j 0 * 4, none⟩)) := by
  obtain ⟨h1, h2 | ⟨eb, cap, cur, rfl, hb, hh, hn, hc, hs, ht⟩⟩ := h
  · have := h2.2; omega
  · have hcell : ∀ j, j < es.length + 1 → w.cell? ⟨eb, j, none⟩ = (ptrs ab g es)[j]? := fun j hj => by
      unfold World.cell?
      rw [hh]
      simp only [Option.isSome_none, Bool.false_eq_true, if_false]
      rw [← ht, List.getElem?_take, if_pos (by omega)]
      simp
    refine ⟨eb, cap, cur, rfl, hb, hn, hh, hcell 0 (by omega), fun j hj => ?_⟩
    rw [hcell (j + 1) (by omega)]
    show (es.map fun i => Value.pointer (some ⟨g, i * 4, none⟩))[j]? = _
    rw [List.getElem?_map, List.getD_eq_getElem?_getD, List.getElem?_eq_getElem hj]
    rfl
theorem OwnE.take {a : Option Addr} {m cap : Nat} (h : OwnE w base (.slice a m cap) ab g es) (k : Nat) (hk : k ≤ es.length) : OwnE w base (.slice a (k + 1) cap) ab g (es.take k) := by
  obtain ⟨h1, h2 | ⟨eb, cap', cur, hv, hb, hh, hn, hc, hs, ht⟩⟩ := h
  · have := h2.2; omega
  · injection hv with e1 e2 e3
    subst e1 e3
    have hlen : (es.take k).length = k := by simp; omega
    unfold OwnE
    rw [hlen]
    refine ⟨by rw [ptrs_len, hlen]; omega, .inr ⟨eb, cap, cur, rfl, hb, hh, by omega, hc, hs, ?_⟩⟩
    rw [← ptrs_take, ← ht, List.take_take]
    congr 1
    omega
end
theorem wpList_append_nptr {w2 : World} {ops : Array Oper} {rest : List Oper} {o : Oper} {a : Act} {Q : Exit → Act → World → Prop} (hgd : o.guard = none) (s x : Operand)
    (ho : o.op = .call { callee := .builtin .append, args := #[s, x], argTypes := #[108, 108] })
    (base : Nat) (v : Value) (n : Nat) (xs : List Value) (hs : a.eval s = v) (hown : w2.ownsRow base 107 1 v n xs) (y : Option Addr)
    (hx : a.eval x = .slice (some ⟨w2.heap.size, 0, none⟩) 1 1) (hn : n ≤ 1000000000) (hbase : base ≤ w2.heap.size)
    (h : ∀ v' w', w'.ownsRow base 107 1 v' (n + 1) (xs ++ [.pointer y]) → (w2.alloc (.cells #[.pointer y] 107)).grownBy w' v.ownBlock → (v'.ownBlock = v.ownBlock ∨ v'.ownBlock = some (w2.heap.size + 1)) → wpList Tryz.prog ops Q rest (a.put o.dst v') w') :
    wpList Tryz.prog ops Q (o :: rest) a (w2.alloc (.cells #[.pointer y] 107)) := by
  obtain ⟨i0, hi, hz0, hz1, hz2⟩ := info_parts info_nptr
  refine wpList_append_own_at _ hgd s x 108 ho base 107 i0 (.pointer none) 1 8 Tryz.underlying108 hi hz0 hz1 hz2 rfl (by decide) v n xs hs (hown.alloc _) ⟨w2.heap.size, 0, none⟩ 1 1 [.pointer y] hx rfl ?_ ?_ ?_ ?_ ?_ fun v' w' h1 h2 _ h4 => h v' w' h1 h2 (by rw [World.size_alloc] at h4; exact h4)
  · intro j u hj
    rcases j with _ | j
    · simp at hj
      subst hj
      exact World.cell?_alloc_at _ _ _ _ rfl
    · simp at hj
  · intro u hu
    simp at hu
    subst hu
    rfl
  · unfold maxLen; omega
  · omega
  · rw [World.size_alloc]; omega
end Go.Proofs.YthhboidjibdahaaGreat
