/-
  A segment's bytes as cells: the plain mathematics of layer 2, and what stands in memory for a segment of words.
  No condition.
-/
import Derived.Test.YtkpopaadkfgjaaaProg
import Derived.WalkKit
import Derived.WalkSpells
import Derived.WalkLawsBesides
import Derived.Handy
import Derived.KernelRfl
import Derived.Below
import Derived.OneCell
import Derived.Laws.MakeOwn
import Derived.Laws.CopyOwn
import Derived.Lib.Hide
namespace Go.Proofs.Ytkpopaadkfgjaaa
open Go.RowKit
set_option linter.unusedVariables false
set_option linter.unusedSimpArgs false

theorem ret_int' {k : IntKind} {a b : Int} (h : a = b) : Ending.returned (.int k a) = .returned (.int k b) := by rw [h]

/-! ### Rows of bytes -/
/-- n cells, the j-th of them the byte f j -/
def rowOf (f : Nat → Nat) (n : Nat) : Array Value := (Array.range n).map fun j => .int .u8 (f j : Nat)
theorem size_rowOf (f : Nat → Nat) (n : Nat) : (rowOf f n).size = n := by simp [rowOf]
theorem rowOf_at (f : Nat → Nat) (n j : Nat) (h : j < n) : (rowOf f n)[j]? = some (.int .u8 (f j : Nat)) := by
  simp [rowOf, Array.getElem?_range, h]
theorem rowOf_congr {f g : Nat → Nat} {n : Nat} (h : ∀ j, j < n → f j = g j) : rowOf f n = rowOf g n := by
  apply Array.ext
  · simp [size_rowOf]
  · intro i h1 h2
    rw [size_rowOf] at h1
    simp [rowOf, h i h1]
theorem rowOf_set (f : Nat → Nat) (n i b : Nat) : (rowOf f n).setIfInBounds i (.int .u8 (b : Nat)) = rowOf (fun j => if j = i then b else f j) n := by
  apply Array.ext
  · simp [size_rowOf]
  · intro j h1 h2
    rw [size_rowOf] at h2
    rw [Array.getElem_setIfInBounds (by simpa [size_rowOf] using h2)]
    by_cases e : i = j
    · subst e; simp [rowOf]
    · have e' : ¬ j = i := fun h => e h.symm
      simp [rowOf, e, e']
theorem made_row (n : Nat) : madeCells (#[.int .u8 0] : Array Value) n = rowOf (fun _ => 0) n := by
  apply Array.ext
  · simp [size_madeCells, size_rowOf]
  · intro j h1 h2
    simp [madeCells, rowOf, Nat.mod_one]
theorem rowOf_toList (f : Nat → Nat) (n : Nat) : (rowOf f n).toList = (List.range n).map fun j => Value.int .u8 (f j : Nat) := by
  simp [rowOf]
theorem rowOf_one (f : Nat → Nat) (n : Nat) : ∀ v ∈ (rowOf f n).toList, v.oneCell' = true := by
  intro v hv
  rw [rowOf_toList] at hv
  obtain ⟨j, _, rfl⟩ := List.mem_map.mp hv
  rfl

/-! ### Words and their bytes -/
/-- byte i of a word -/
def wb (x i : Nat) : Nat := x / 256 ^ i % 256
theorem wb_lt (x i : Nat) : wb x i < 256 := Nat.mod_lt _ (by decide)
theorem mod_step (x k : Nat) : x % 256 ^ (k + 1) = x % 256 ^ k + wb x k * 256 ^ k := by
  unfold wb
  rw [Nat.pow_succ, Nat.mod_mul, Nat.mul_comm (256 ^ k)]
/-- byte j of words, the lowest first -/
def byteN (ws : List Nat) (j : Nat) : Nat := wb (ws.getD (j / 8) 0) (j % 8)
theorem byteN_lt (ws : List Nat) (j : Nat) : byteN ws j < 256 := wb_lt _ _
/-- may a word stand at off? -/
def stands (ws : List Nat) (off : Nat) : Prop := off % 8 = 0 ∧ off < 8 * ws.length
instance (ws : List Nat) (off : Nat) : Decidable (stands ws off) := by unfold stands; infer_instance
/-- words, with one stored -/
def put (ws : List Nat) (off v : Nat) : List Nat := if stands ws off then ws.set (off / 8) v else ws
theorem put_len (ws : List Nat) (off v : Nat) : (put ws off v).length = ws.length := by unfold put; split <;> simp
theorem put_lt {ws : List Nat} {off v : Nat} (h : ∀ x ∈ ws, x < 18446744073709551616) (hv : v < 18446744073709551616) : ∀ x ∈ put ws off v, x < 18446744073709551616 := by
  unfold put
  split
  · intro x hx
    rcases List.mem_or_eq_of_mem_set hx with h' | h'
    · exact h x h'
    · omega
  · exact h
theorem getD_lt {ws : List Nat} (h : ∀ x ∈ ws, x < 18446744073709551616) (i : Nat) : ws.getD i 0 < 18446744073709551616 := by
  rw [List.getD_eq_getElem?_getD]
  rcases e : ws[i]? with _ | x
  · simp
  · exact h x (List.mem_of_getElem? e)
/-- what a word's bytes give, all eight -/
theorem all_eight (x : Nat) (h : x < 18446744073709551616) : x % 256 ^ 8 = x := by
  apply Nat.mod_eq_of_lt
  have : (256 : Nat) ^ 8 = 18446744073709551616 := by decide
  omega
theorem byteN_put (ws : List Nat) (off v j : Nat) (h : stands ws off) (hj : j < 8 * ws.length) :
    byteN (put ws off v) j = if off ≤ j ∧ j < off + 8 then wb v (j - off) else byteN ws j := by
  obtain ⟨h1, h2⟩ := h
  unfold put
  rw [if_pos ⟨h1, h2⟩]
  unfold byteN
  have hi : j / 8 < ws.length := by omega
  by_cases e : off ≤ j ∧ j < off + 8
  · rw [if_pos e]
    have e1 : j / 8 = off / 8 := by omega
    have e2 : j % 8 = j - off := by omega
    rw [e1] at hi
    rw [e1, e2, List.getD_eq_getElem?_getD, List.getElem?_set_self hi]; rfl
  · rw [if_neg e]
    have e1 : off / 8 ≠ j / 8 := by omega
    rw [List.getD_eq_getElem?_getD, List.getD_eq_getElem?_getD, List.getElem?_set_ne e1]

/-! ### Memory -/
theorem heap_setCell_same {w : World} {b o : Nat} {c : Array Value} {t : TypeId} {fr : Nat × Nat} (h : w.heap[b]? = some (.cells c t fr)) (v : Value) :
    (w.setCell ⟨b, o, none⟩ v).heap[b]? = some (.cells (c.setIfInBounds o v) t fr) := by
  have hb := lt_of_block h
  simp [World.setCell, Array.getElem?_modify, h]
theorem cell_of_row {w : World} {b n : Nat} {f : Nat → Nat} {t : TypeId} {fr : Nat × Nat} (h : w.heap[b]? = some (.cells (rowOf f n) t fr)) (j : Nat) (hj : j < n) : w.cell? ⟨b, j, none⟩ = some (.int .u8 (f j : Nat)) := by
  simp [World.cell?, h, rowOf_at f n j hj]
theorem free_of_row {w : World} {b : Nat} {c : Array Value} {t : TypeId} (h : w.heap[b]? = some (.cells c t (0, 0))) (o : Nat) : w.frozen? ⟨b, o, none⟩ = false := by
  simp [World.frozen?, h]
theorem heap_alloc_new' (w : World) (o : Obj) : (w.alloc o).heap[w.heap.size]? = some o := by
  show (w.heap.push o)[w.heap.size]? = _
  simp
theorem grown_refl (w : World) (row : Option Nat) : w.grownBy w row := ⟨rfl, rfl, rfl, Nat.le_refl _, fun _ _ _ => rfl⟩
theorem grown_trans {a b c : World} {row : Option Nat} (h : a.grownBy b row) (k : b.grownBy c row) : a.grownBy c row :=
  ⟨k.os.trans h.os, k.tape.trans h.tape, k.output.trans h.output, Nat.le_trans h.size k.size, fun i hi hn => (k.block i (Nat.lt_of_lt_of_le hi h.size) hn).trans (h.block i hi hn)⟩
theorem grown_any {a b : World} (h : a.grownBy b none) (row : Option Nat) : a.grownBy b row :=
  ⟨h.os, h.tape, h.output, h.size, fun i hi _ => h.block i hi (by simp)⟩
theorem grown_set (w : World) (b o : Nat) (v : Value) : w.grownBy (w.setCell ⟨b, o, none⟩ v) (some b) :=
  ⟨rfl, rfl, rfl, by simp [World.setCell], fun i hi hn => Below.heap_setCell _ _ _ _ (fun e => hn (congrArg some e))⟩
theorem grown_drew {a b : World} {row : Option Nat} (h : a.grownBy b row) : a.grownBy b.drew row := ⟨h.os, h.tape, h.output, h.size, h.block⟩
/-- what was written lies beyond what was there -/
theorem grown_new {a b : World} {k : Nat} (h : a.grownBy b (some k)) (hk : a.heap.size ≤ k) : a.grownBy b none :=
  ⟨h.os, h.tape, h.output, h.size, fun i hi _ => h.block i hi (by intro e; injection e; omega)⟩
theorem grown_below {a b : World} (h : a.grownBy b none) : Below a.heap.size a b := ⟨h.os, h.tape, h.output, h.size, fun i hi => h.block i hi (by simp)⟩
theorem below_grown {a b : World} (h : Below a.heap.size a b) : a.grownBy b none := ⟨h.os, h.tape, h.output, h.size, fun i hi _ => h.block i hi⟩
/-- two steps, the second one from a world that has more -/
theorem grown_step {a b c : World} {row row' : Option Nat} (h : a.grownBy b row) (k : b.grownBy c row') (hr : ∀ i, row' = some i → a.heap.size ≤ i ∨ row = some i) : a.grownBy c row :=
  ⟨k.os.trans h.os, k.tape.trans h.tape, k.output.trans h.output, Nat.le_trans h.size k.size, fun i hi hn =>
    (k.block i (Nat.lt_of_lt_of_le hi h.size) (by
      intro e
      rcases hr i e.symm with h' | h'
      · omega
      · exact hn h'.symm)).trans (h.block i hi hn)⟩

/-! ### A segment -/
/-- Blocks B and D are a segment of these words. -/
structure IsSeg (w : World) (B D : Nat) (ws : List Nat) : Prop where
  head : w.heap[B]? = some (.cells #[.slice (some ⟨D, 0, none⟩) (8 * ws.length) (8 * ws.length)] 92 (0, 0))
  data : w.heap[D]? = some (.cells (rowOf (byteN ws) (8 * ws.length)) 5 (0, 0))
  ne : B ≠ D
  words : ∀ x ∈ ws, x < 18446744073709551616
  some1 : 1 ≤ ws.length
  most : ws.length ≤ 131072

section
variable {w w' : World} {B D : Nat} {ws : List Nat}
theorem IsSeg.hd (h : IsSeg w B D ws) : w.cell? ⟨B, 0, none⟩ = some (.slice (some ⟨D, 0, none⟩) (8 * ws.length) (8 * ws.length)) := by simp [World.cell?, h.head]
theorem IsSeg.hdf (h : IsSeg w B D ws) : w.frozen? ⟨B, 0, none⟩ = false := by simp [World.frozen?, h.head]
theorem IsSeg.at_ (h : IsSeg w B D ws) (j : Nat) (hj : j < 8 * ws.length) : w.cell? ⟨D, j, none⟩ = some (.int .u8 (byteN ws j : Nat)) := cell_of_row h.data j hj
theorem IsSeg.free (h : IsSeg w B D ws) (j : Nat) : w.frozen? ⟨D, j, none⟩ = false := free_of_row h.data j
theorem IsSeg.ltB (h : IsSeg w B D ws) : B < w.heap.size := lt_of_block h.head
theorem IsSeg.ltD (h : IsSeg w B D ws) : D < w.heap.size := lt_of_block h.data
theorem IsSeg.kept (h : IsSeg w B D ws) {row : Option Nat} (hg : w.grownBy w' row) (hB : row ≠ some B) (hD : row ≠ some D) : IsSeg w' B D ws where
  head := (hg.block B h.ltB hB.symm).trans h.head
  data := (hg.block D h.ltD hD.symm).trans h.data
  ne := h.ne
  words := h.words
  some1 := h.some1
  most := h.most
theorem IsSeg.later (h : IsSeg w B D ws) (hg : w.grownBy w' none) : IsSeg w' B D ws := h.kept hg (by simp) (by simp)
end
/-- What a segment's variable holds: nobody's, of no words; or one's. -/
def SegAt (w : World) (v : Value) (ws : List Nat) : Prop := (v = .pointer none ∧ ws = []) ∨ ∃ B D, v = .pointer (some ⟨B, 0, none⟩) ∧ IsSeg w B D ws
end Go.Proofs.Ytkpopaadkfgjaaa
