/-
  The texts of this claim that speak of one layer, one behind the other: each says ahead of it what it holds, and under which conditions.
-/
import Derived.Test.YthhboidjibdahaaGreatLTag
import Derived.Test.YthhboidjibdahaaGreatLWord
import Derived.Test.YthhboidjibdahaaGreatLTx
import Derived.Test.YthhboidjibdahaaGreatLHead
/-
  Package phys: a block where words stand, as plain mathematics; the contract of read.
  Conditions: the Tx stands in memory; the offset is a number of 64 bits.
-/
namespace Go.Proofs.YthhboidjibdahaaGreat
open Go.RowKit
set_option linter.unusedVariables false
set_option linter.unusedSimpArgs false

/-- a block: where it stands, its tag, and how many bytes it has -/
structure Blk where
  off : Nat
  s : Nat
  u : Bool
  o : Int
  n : Nat
deriving DecidableEq
instance : Inhabited Blk := ⟨⟨0, 0, false, 0, 0⟩⟩
def Blk.row (b : Blk) : List Value := [.int .u64 (b.off : Nat), .int .u64 (b.s : Nat), .bool b.u, .int .i64 b.o, .int .u64 (b.n : Nat)]
def Blk.none : Blk := ⟨0, 0, false, 0, 0⟩
/-- does a whole block stand at off? -/
def bkP (f : Nat → Nat) (off : Nat) : Prop := rdP f off ∧ (uus (f off) = true → f (off + 8) + 40 ≤ usz (f off))
instance (f : Nat → Nat) (off : Nat) : Decidable (bkP f off) := by unfold bkP; infer_instance
def bkL (f : Nat → Nat) (off : Nat) : Nat := if uus (f off) = true then f (off + 8) else 0
def bkAt (f : Nat → Nat) (off : Nat) : Blk := ⟨off, usz (f off), uus (f off), uow (f off), bkL f off⟩
def bkR (f : Nat → Nat) (off : Nat) : Blk := if bkP f off then bkAt f off else Blk.none
def bkE (f : Nat → Nat) (off : Nat) : Nat := if bkP f off then 0 else 12
theorem bk_yes {f : Nat → Nat} {off : Nat} (h : bkP f off) : bkR f off = bkAt f off ∧ bkE f off = 0 := ⟨if_pos h, if_pos h⟩
theorem bk_no {f : Nat → Nat} {off : Nat} (h : ¬ bkP f off) : bkR f off = Blk.none ∧ bkE f off = 12 := ⟨if_neg h, if_neg h⟩
theorem need_leq {n s : Nat} (h : s % 16 = 0) (h48 : 48 ≤ s) : needOf n ≤ s ↔ n + 40 ≤ s := by
  unfold needOf
  split <;> omega
/-! a block of five cells -/
section
variable {w w' : World} {b : Nat} {x y z p q x' y' z' p' q' : Value} {t : TypeId}
theorem five_cells (h : w.heap[b]? = some (.cells #[x, y, z, p, q] t (0, 0))) : w.cell? ⟨b, 0, none⟩ = some x ∧ w.cell? ⟨b, 1, none⟩ = some y ∧ w.cell? ⟨b, 2, none⟩ = some z ∧ w.cell? ⟨b, 3, none⟩ = some p ∧ w.cell? ⟨b, 4, none⟩ = some q :=
  ⟨by simp [World.cell?, h], by simp [World.cell?, h], by simp [World.cell?, h], by simp [World.cell?, h], by simp [World.cell?, h]⟩
theorem five_frozen (h : w.heap[b]? = some (.cells #[x, y, z, p, q] t (0, 0))) : w.frozen? ⟨b, 0, none⟩ = false ∧ w.frozen? ⟨b, 1, none⟩ = false ∧ w.frozen? ⟨b, 2, none⟩ = false ∧ w.frozen? ⟨b, 3, none⟩ = false ∧ w.frozen? ⟨b, 4, none⟩ = false :=
  ⟨by simp [World.frozen?, h], by simp [World.frozen?, h], by simp [World.frozen?, h], by simp [World.frozen?, h], by simp [World.frozen?, h]⟩
theorem five_first (hg : (w.alloc (.cells #[x, y, z, p, q] t)).grownBy w' none) : w'.heap[w.heap.size]? = some (.cells #[x, y, z, p, q] t (0, 0)) := by
  have h1 : (w.alloc (.cells #[x, y, z, p, q] t)).heap[w.heap.size]? = some (.cells #[x, y, z, p, q] t (0, 0)) := heap_alloc_new' _ _
  exact (hg.block _ (lt_of_block h1) (by simp)).trans h1
theorem five_put (h : w.heap[b]? = some (.cells #[x, y, z, p, q] t (0, 0))) : (((((w.setCell ⟨b, 0, none⟩ x').setCell ⟨b, 1, none⟩ y').setCell ⟨b, 2, none⟩ z').setCell ⟨b, 3, none⟩ p').setCell ⟨b, 4, none⟩ q').heap[b]? = some (.cells #[x', y', z', p', q'] t (0, 0)) := by
  rw [heap_setCell_same (heap_setCell_same (heap_setCell_same (heap_setCell_same (heap_setCell_same h x') y') z') p') q']; rfl
theorem five_grown {w0 : World} (h : w0.grownBy w none) (hb : w0.heap.size ≤ b) : w0.grownBy (((((w.setCell ⟨b, 0, none⟩ x').setCell ⟨b, 1, none⟩ y').setCell ⟨b, 2, none⟩ z').setCell ⟨b, 3, none⟩ p').setCell ⟨b, 4, none⟩ q') none :=
  grown_new (grown_trans (grown_any h _) (grown_trans (grown_set _ _ _ _) (grown_trans (grown_set _ _ _ _) (grown_trans (grown_set _ _ _ _) (grown_trans (grown_set _ _ _ _) (grown_set _ _ _ _)))))) hb
end
section
variable {w : World} {T M : Nat} {R : Option Nat} {B D : Nat} {ws : List Nat} {l : List (Nat × Nat)}
end
end Go.Proofs.YthhboidjibdahaaGreat

/-
  Blocks in a row, as plain mathematics: where each begins, how many there are, and whether they end where the heap does.
  No condition.
-/
namespace Go.Proofs.YthhboidjibdahaaGreat
open Go.RowKit
set_option linter.unusedVariables false
set_option linter.unusedSimpArgs false

/-- where the k-th block begins -/
def offs (f : Nat → Nat) : Nat → Nat
  | 0 => 3776
  | k + 1 => offs f k + usz (f (offs f k))
/-- So many whole blocks stand one behind the other; ok: they end at the heap's end; else what is next is no block. -/
structure Walks (f : Nat → Nat) (N : Nat) (ok : Bool) : Prop where
  lt : ∀ k, k < N → offs f k < f 16 ∧ bkP f (offs f k)
  fin : if ok then f 16 ≤ offs f N else offs f N < f 16 ∧ ¬ bkP f (offs f N)
theorem bk_ge {f : Nat → Nat} {off : Nat} (h : bkP f off) : 48 ≤ usz (f off) ∧ off + usz (f off) ≤ f 16 ∧ off < f 16 ∧ 3776 ≤ off ∧ off % 16 = 0 := by
  have h1 := mayW_size h.1.1
  have h2 := h.1.2.1
  unfold inP at h2
  omega
theorem walks_from (f : Nat → Nat) : ∀ (m k : Nat), f 16 - offs f k ≤ m → (∀ j, j < k → offs f j < f 16 ∧ bkP f (offs f j)) → ∃ N ok, Walks f N ok := by
  intro m
  induction m with
  | zero =>
    intro k h hk
    exact ⟨k, true, hk, by rw [if_pos rfl]; omega⟩
  | succ m ih =>
    intro k h hk
    by_cases h1 : offs f k < f 16
    · by_cases h2 : bkP f (offs f k)
      · refine ih (k + 1) ?_ (fun j hj => ?_)
        · have := (bk_ge h2).1
          show f 16 - (offs f k + usz (f (offs f k))) ≤ m
          omega
        · rcases Nat.lt_succ_iff_lt_or_eq.1 hj with h3 | rfl
          · exact hk j h3
          · exact ⟨h1, h2⟩
      · exact ⟨k, false, hk, by rw [if_neg (by simp)]; exact ⟨h1, h2⟩⟩
    · exact ⟨k, true, hk, by rw [if_pos rfl]; omega⟩
theorem walks_some (f : Nat → Nat) : ∃ N ok, Walks f N ok := walks_from f _ 0 (Nat.le_refl _) (fun j hj => absurd hj (Nat.not_lt_zero _))
section
variable {f : Nat → Nat} {N : Nat} {ok : Bool}
theorem Walks.ge (h : Walks f N ok) : ∀ k, k ≤ N → 3776 + 48 * k ≤ offs f k := by
  intro k
  induction k with
  | zero => intro _; exact Nat.le_refl _
  | succ k ih =>
    intro hk
    have h1 := ih (by omega)
    have h2 := bk_ge (h.lt k (by omega)).2
    show 3776 + 48 * (k + 1) ≤ offs f k + usz (f (offs f k))
    omega
theorem Walks.le (h : Walks f N ok) (hz : 3776 ≤ f 16) : ∀ k, k ≤ N → offs f k ≤ f 16 := by
  intro k
  cases k with
  | zero => intro _; exact hz
  | succ k =>
    intro hk
    exact (bk_ge (h.lt k (by omega)).2).2.1
/-- the blocks' row is short -/
theorem Walks.len (h : Walks f N ok) : 48 * N ≤ f 16 := by
  cases N with
  | zero => omega
  | succ k =>
    have h1 := h.ge (k + 1) (Nat.le_refl _)
    have h2 := (bk_ge (h.lt k (Nat.lt_succ_self k)).2).2.1
    have e : offs f (k + 1) = offs f k + usz (f (offs f k)) := rfl
    omega
theorem Walks.mono (h : Walks f N ok) {i j : Nat} (hij : i < j) (hj : j ≤ N) : offs f i + 48 ≤ offs f j := by
  induction j with
  | zero => omega
  | succ j ih =>
    have h2 := (bk_ge (h.lt j (by omega)).2).1
    have e : offs f (j + 1) = offs f j + usz (f (offs f j)) := rfl
    rcases Nat.lt_succ_iff_lt_or_eq.1 hij with h3 | rfl
    · have := ih h3 (by omega); omega
    · omega
theorem Walks.inj (h : Walks f N ok) {i j : Nat} (hi : i < N) (hj : j < N) (he : offs f i = offs f j) : i = j := by
  rcases Nat.lt_trichotomy i j with h1 | h1 | h1
  · have := h.mono h1 (Nat.le_of_lt hj); omega
  · exact h1
  · have := h.mono h1 (Nat.le_of_lt hi); omega
end
/-- all blocks, and what is told of them -/
def blks (f : Nat → Nat) (N : Nat) : List Blk := (List.range N).map fun k => bkAt f (offs f k)
theorem blks_len (f : Nat → Nat) (N : Nat) : (blks f N).length = N := by simp [blks]
theorem blks_get (f : Nat → Nat) {N k : Nat} (h : k < N) : (blks f N).getD k default = bkAt f (offs f k) := by
  unfold blks
  rw [List.getD_eq_getElem?_getD, List.getElem?_map, List.getElem?_range h]
  rfl
theorem blks_succ (f : Nat → Nat) (N : Nat) : blks f (N + 1) = blks f N ++ [bkAt f (offs f N)] := by
  unfold blks
  rw [List.range_succ, List.map_append]
  rfl
def wkL (f : Nat → Nat) (N : Nat) (ok : Bool) : List Blk := if ok then blks f N else []
def wkE (ok : Bool) : Nat := if ok then 0 else 12
/-! cells of rows of blocks -/
def cellsB (l : List Blk) : List Value := l.flatMap Blk.row
theorem cellsB_snoc (l : List Blk) (b : Blk) : cellsB (l ++ [b]) = cellsB l ++ b.row := by simp [cellsB, List.flatMap_append]
theorem cellsB_len (l : List Blk) : (cellsB l).length = l.length * 5 := by
  induction l with
  | nil => rfl
  | cons b l ih =>
    show (b.row ++ cellsB l).length = _
    rw [List.length_append, ih]
    simp [Blk.row]
    omega
theorem cellsB_at (l : List Blk) (k i : Nat) (h : k < l.length) (hi : i < 5) : (cellsB l)[k * 5 + i]? = (l.getD k default).row[i]? := by
  induction l generalizing k with
  | nil => simp at h
  | cons b l ih =>
    show (b.row ++ cellsB l)[k * 5 + i]? = _
    have hb : b.row.length = 5 := rfl
    cases k with
    | zero =>
      rw [List.getElem?_append_left (by rw [hb]; omega)]
      simp
    | succ k =>
      rw [List.getElem?_append_right (by rw [hb]; omega), hb, show (k + 1) * 5 + i - 5 = k * 5 + i by omega, ih k (by simpa using h)]
      simp
theorem cellsB_one (l : List Blk) : ∀ u ∈ cellsB l, u.oneCell' = true := by
  intro u hu
  unfold cellsB at hu
  rw [List.mem_flatMap] at hu
  obtain ⟨b, _, hb⟩ := hu
  simp [Blk.row] at hb
  rcases hb with rfl | rfl | rfl | rfl | rfl <;> rfl
end Go.Proofs.YthhboidjibdahaaGreat

/-
  Package phys: what 'blocks' hands back, as an iterator: it tells each block in turn, and last what is none, whatever the loop's body does that keeps the Tx.
  Conditions: the Tx stands in memory.
-/
namespace Go.Proofs.YthhboidjibdahaaGreat
open Go.RowKit Go.Shelf
set_option linter.unusedVariables false
set_option linter.unusedSimpArgs false
attribute [local go_sem] Oper.semAt_some

/-- what the k-th round is handed -/
def bkV (f : Nat → Nat) (k : Nat) : Array Value := #[.agg (bkR f (offs f k)).row.toArray, .int .i64 (bkE f (offs f k) : Nat)]
/-- how many rounds there are -/
def bkN (N : Nat) (ok : Bool) : Nat := if ok then N else N + 1
/-- the row that the variable in block lb leads to -/
def RowAt (lb : Nat) (A : World) (b : Nat) : Prop := ∃ v : Value, A.cell? ⟨lb, 0, none⟩ = some v ∧ v.ownBlock = some b
theorem RowAt.back {lb : Nat} {A C : World} {row : Option Nat} {b : Nat} (h : RowAt lb C b) (hg : A.grownBy C row) (hlb : lb < A.heap.size) (hr : row ≠ some lb) : RowAt lb A b := by
  obtain ⟨v, h1, h2⟩ := h
  refine ⟨v, ?_, h2⟩
  have := hg.block lb hlb (fun e => hr e.symm)
  unfold World.cell? at h1 ⊢
  simp only [this] at h1
  exact h1
/-- a block of five cells at most -/
def Small (A : World) (b : Nat) : Prop := ∃ c t fr, A.heap[b]? = some (.cells c t fr) ∧ c.size ≤ 5
theorem Small.lt {A : World} {b : Nat} (h : Small A b) : b < A.heap.size := by
  obtain ⟨c, t, fr, h1, _⟩ := h
  exact lt_of_block h1
/-- What a body that goes on keeps: all that stood below n0; and all short blocks of cells but the variable in block lb, and the row that it leads to. -/
structure BkKeep (n0 lb : Nat) (A C : World) : Prop where
  below : Below n0 A C
  frame : ∀ b, Small A b → b ≠ lb → ¬ RowAt lb A b → C.heap[b]? = A.heap[b]?
  row : ∀ b, RowAt lb C b → RowAt lb A b ∨ (A.heap.size ≤ b ∧ b < C.heap.size) ∨ b = lb ∨ (b < A.heap.size ∧ ¬ Small A b)
theorem BkKeep.trans {n0 lb : Nat} {A C E : World} (h : BkKeep n0 lb A C) (k : BkKeep n0 lb C E) : BkKeep n0 lb A E where
  below := h.below.trans k.below
  frame := fun b hb hn hr => by
    have e := h.frame b hb hn hr
    have hs : Small C b := by
      obtain ⟨c, t, fr, h1, h2⟩ := hb
      exact ⟨c, t, fr, e.trans h1, h2⟩
    refine (k.frame b hs hn (fun hC => ?_)).trans e
    rcases h.row b hC with h1 | h1 | h1 | h1
    · exact hr h1
    · have := hb.lt; omega
    · exact hn h1
    · exact h1.2 hb
  row := fun b hb => by
    have h1 := h.below.size
    have h2 := k.below.size
    rcases k.row b hb with h3 | h3 | h3 | h3
    · rcases h.row b h3 with h4 | h4 | h4 | h4
      · exact .inl h4
      · exact .inr (.inl ⟨h4.1, by omega⟩)
      · exact .inr (.inr (.inl h4))
      · exact .inr (.inr (.inr h4))
    · exact .inr (.inl ⟨by omega, h3.2⟩)
    · exact .inr (.inr (.inl h3))
    · rcases Nat.lt_or_ge b A.heap.size with h5 | h5
      · by_cases h6 : b = lb
        · exact .inr (.inr (.inl h6))
        · by_cases h7 : RowAt lb A b
          · exact .inl h7
          · refine .inr (.inr (.inr ⟨h5, fun hs => h3.2 ?_⟩))
            have e := h.frame b hs h6 h7
            obtain ⟨c, t, fr, h1, h2⟩ := hs
            exact ⟨c, t, fr, e.trans h1, h2⟩
      · exact .inr (.inl ⟨h5, by omega⟩)
theorem BkKeep.put {n0 lb : Nat} {w0 : World} (hlb : lb < w0.heap.size) (hn : n0 ≤ w0.heap.size) (W : World) (l : Nat) (o o' : Obj) (hl : w0.heap.size ≤ l) (h : W.heap[l]? = some o) (hc : o.isCells = false) (hw : o.isWalk = false) : BkKeep n0 lb W (W.putObj l o') where
  below := belowK_b (w := w0) hn W l o o' hl h hc hw
  frame := fun b hb _ _ => World.putObj_heap_other (fun e => by
    obtain ⟨c, t, fr, hb, _⟩ := hb
    subst e; rw [h] at hb; cases hb; cases hc)
  row := fun b hb => .inl (by
    obtain ⟨v, h1, h2⟩ := hb
    refine ⟨v, ?_, h2⟩
    have : (W.putObj l o').heap[lb]? = W.heap[lb]? := World.putObj_heap_other (by omega)
    unfold World.cell? at h1 ⊢
    simp only [this] at h1
    exact h1)
theorem BkKeep.alloc {n0 lb : Nat} (W : World) (o : Obj) (hn : n0 ≤ W.heap.size) (hlb : lb < W.heap.size) : BkKeep n0 lb W (W.alloc o) where
  below := (Below.refl _ W).alloc hn _
  frame := fun b hb _ _ => Below.heap_alloc _ _ _ hb.lt
  row := fun b hb => .inl (hb.back (World.grownBy_alloc W o none) hlb (by simp))
section
variable {w : World} {T M : Nat} {R : Option Nat} {B D : Nat} {ws : List Nat} {l : List (Nat × Nat)}
end
end Go.Proofs.YthhboidjibdahaaGreat

/-
  Package phys: the contract of Walk: all blocks, in a row of the call's own, or that they are none.
  Conditions: the Tx stands in memory.
-/
namespace Go.Proofs.YthhboidjibdahaaGreat
open Go.RowKit Go.Shelf
set_option linter.unusedVariables false
set_option linter.unusedSimpArgs false
attribute [local go_sem] Oper.semAt_some

def Xo (f : Nat → Nat) (k : Nat) : Nat := (bkR f (offs f k)).off
def Xs (f : Nat → Nat) (k : Nat) : Nat := (bkR f (offs f k)).s
def Xu (f : Nat → Nat) (k : Nat) : Bool := (bkR f (offs f k)).u
def Xw (f : Nat → Nat) (k : Nat) : Int := (bkR f (offs f k)).o
def Xn (f : Nat → Nat) (k : Nat) : Nat := (bkR f (offs f k)).n
def Xe (f : Nat → Nat) (k : Nat) : Nat := bkE f (offs f k)
theorem Xrow (f : Nat → Nat) (k : Nat) : (bkR f (offs f k)).row = [.int .u64 (Xo f k : Nat), .int .u64 (Xs f k : Nat), .bool (Xu f k), .int .i64 (Xw f k), .int .u64 (Xn f k : Nat)] := rfl
theorem Xe_or (f : Nat → Nat) (k : Nat) : Xe f k = 0 ∨ Xe f k = 12 := by
  unfold Xe bkE
  split
  · exact .inl rfl
  · exact .inr rfl
theorem cells_five_new (W : World) (t : TypeId) (x y z p q : Value) : ∀ j u, [x, y, z, p, q][j]? = some u → (W.alloc (.cells #[x, y, z, p, q] t)).cell? ((⟨W.heap.size, 0, none⟩ : Addr).add j) = some u := by
  intro j u hj
  have hb : (W.alloc (.cells #[x, y, z, p, q] t)).heap[W.heap.size]? = some (.cells #[x, y, z, p, q] t (0, 0)) := heap_alloc_new' _ _
  have hadd : ∀ j, (⟨W.heap.size, 0, none⟩ : Addr).add j = ⟨W.heap.size, j, none⟩ := fun j => by unfold Addr.add; split <;> simp_all
  rw [hadd]
  unfold World.cell?
  simp only [hb]
  rcases j with _ | _ | _ | _ | _ | j
  all_goals first | (simp at hj; subst hj; rfl) | (simp at hj)
/-- the blocks of these places, as cells -/
def cellsK (f : Nat → Nat) (pre : List Nat) : List Value := cellsB (pre.map fun k => bkR f (offs f k))
theorem cellsK_snoc (f : Nat → Nat) (pre : List Nat) (k : Nat) : cellsK f (pre ++ [k]) = cellsK f pre ++ (bkR f (offs f k)).row := by
  unfold cellsK
  rw [List.map_append]
  exact cellsB_snoc _ _
theorem cellsK_all {f : Nat → Nat} {N : Nat} {ok : Bool} (h : Walks f N ok) : cellsK f (List.range N) = cellsB (blks f N) := by
  unfold cellsK blks
  congr 1
  refine List.map_congr_left fun k hk => ?_
  exact (bk_yes (h.lt k (List.mem_range.1 hk)).2).1
/-- A row of the call's own that holds these blocks (or nil, of none); t: which package's blocks. -/
def OwnB (w : World) (base : Nat) (t : TypeId) (v : Value) (l : List Blk) : Prop := w.ownsRow base t 5 v l.length (cellsB l)
theorem boxed_from (n B : Nat) (t : TypeId) (v : Value) {β : Type} : OwnFrom n (fun (_ : β) W => Boxed W B t v) := fun s X Y row hs hg hr => by
  refine (hg.block B (lt_of_block hs) (fun e => ?_)).trans hs
  obtain ⟨_, o, ho, hc⟩ := hr B e.symm
  rw [show X.heap[B]? = _ from hs] at ho; cases ho; cases hc
theorem row_form {w : World} {base : Nat} {t : TypeId} {sz k : Nat} {v : Value} {xs : List Value} (h : w.ownsRow base t sz v k xs) : ∃ a n c, v = .slice a n c := by
  rcases h.2 with ⟨hv, _⟩ | ⟨g, cap, cur, hv, _⟩
  · exact ⟨_, _, _, hv⟩
  · exact ⟨_, _, _, hv⟩
/-- a body that has appended to the row that its variable leads to -/
theorem bk_appended {W w1 : World} {n0 base lb k cap g : Nat} {t e : TypeId} {v : Value} {tmp : Obj} {ys : List Value} (hv : Boxed W lb t v) (hb2 : Below n0 W (w1.setCell ⟨lb, 0, none⟩ (.slice (some ⟨g, 0, none⟩) (k + 1) cap)))
    (hv2 : Boxed (w1.setCell ⟨lb, 0, none⟩ (.slice (some ⟨g, 0, none⟩) (k + 1) cap)) lb t (.slice (some ⟨g, 0, none⟩) (k + 1) cap)) (hown : w1.ownsRow base e 5 (.slice (some ⟨g, 0, none⟩) (k + 1) cap) (k + 1) ys) (hgrow : (W.alloc tmp).grownBy w1 v.ownBlock) (hf : k = 0 → W.heap.size ≤ base) :
    BkKeep n0 lb W (w1.setCell ⟨lb, 0, none⟩ (.slice (some ⟨g, 0, none⟩) (k + 1) cap)) := by
  have hcv : W.cell? ⟨lb, 0, none⟩ = some v := cell_of_one hv
  have hga := World.grownBy_alloc W tmp none
  have hs1 := hga.size
  have hs2 := hgrow.size
  have hs3 : w1.heap.size ≤ (w1.setCell ⟨lb, 0, none⟩ (.slice (some ⟨g, 0, none⟩) (k + 1) cap)).heap.size := (grown_set w1 lb 0 _).size
  refine ⟨hb2, fun b hb hn hr => ?_, fun b hb => ?_⟩
  · have hlt := hb.lt
    refine ((grown_set w1 lb 0 _).block b (by omega) (fun e => hn (by injection e))).trans ?_
    refine (hgrow.block b (by omega) (fun e => hr ⟨v, hcv, e.symm⟩)).trans ?_
    exact hga.block b hlt (by simp)
  · obtain ⟨u, h1, h2⟩ := hb
    rw [cell_of_one hv2] at h1
    injection h1 with h1
    subst h1
    have hgb : g = b := by simpa [Value.ownBlock] using h2
    subst hgb
    rcases hown.2 with ⟨he, _⟩ | ⟨g2, cap2, cur, heq, hbg, hg, hnc, hcm, hcs, htake⟩
    · cases he
    · injection heq with e1 e2 e3
      injection e1 with e1
      injection e1 with e1
      subst e1
      subst e3
      have hltg := lt_of_block hg
      by_cases hW : W.heap.size ≤ g
      · exact .inr (.inl ⟨hW, by omega⟩)
      · have hk : k ≠ 0 := fun e => hW (Nat.le_trans (hf e) hbg)
        by_cases hvg : v.ownBlock = some g
        · exact .inl ⟨v, hcv, hvg⟩
        · refine .inr (.inr (.inr ⟨by omega, fun hs => ?_⟩))
          obtain ⟨c, t', fr, hc, hsz⟩ := hs
          have h5 := (hgrow.block g (by omega) (fun e => hvg e.symm)).trans ((hga.block g (by omega) (by simp)).trans hc)
          rw [hg] at h5
          cases h5
          rw [hcs] at hsz
          omega
section
variable {w : World} {T M : Nat} {R : Option Nat} {B D : Nat} {ws : List Nat} {l : List (Nat × Nat)}
end
end Go.Proofs.YthhboidjibdahaaGreat

/-
  Rows of blocks: where they lie, and what is found in them: the contracts of the library's IndexFunc at blocks, of begins, beside, Before and After.
  Conditions: the blocks lie in memory; there are 1000000 at most.
-/
namespace Go.Proofs.YthhboidjibdahaaGreat
open Go.RowKit
set_option linter.unusedVariables false
set_option linter.unusedSimpArgs false

def gO (l : List Blk) (k : Nat) : Nat := (l.getD k default).off
def gS (l : List Blk) (k : Nat) : Nat := (l.getD k default).s
def gU (l : List Blk) (k : Nat) : Bool := (l.getD k default).u
def gW (l : List Blk) (k : Nat) : Int := (l.getD k default).o
def gN (l : List Blk) (k : Nat) : Nat := (l.getD k default).n
/-- Blocks lie in memory, one behind the other, from la on. -/
structure BlksAt (w : World) (la : Option Addr) (l : List Blk) : Prop where
  cells : 0 < l.length → ∃ b off, la = some ⟨b, off, none⟩ ∧ b < w.heap.size ∧ ∀ k, k < l.length → w.cell? ⟨b, off + k * 5, none⟩ = some (.int .u64 (gO l k : Nat)) ∧ w.cell? ⟨b, off + k * 5 + 1, none⟩ = some (.int .u64 (gS l k : Nat)) ∧ w.cell? ⟨b, off + k * 5 + 2, none⟩ = some (.bool (gU l k)) ∧ w.cell? ⟨b, off + k * 5 + 3, none⟩ = some (.int .i64 (gW l k)) ∧ w.cell? ⟨b, off + k * 5 + 4, none⟩ = some (.int .u64 (gN l k : Nat))
theorem BlksAt.later {w w' : World} {la : Option Addr} {l : List Blk} (h : BlksAt w la l) (hg : w.grownBy w' none) : BlksAt w' la l where
  cells := fun hn => by
    obtain ⟨b, off, h1, h2, h3⟩ := h.cells hn
    refine ⟨b, off, h1, Nat.lt_of_lt_of_le h2 hg.size, fun i hi => ?_⟩
    have hb := hg.block b h2 (by simp)
    obtain ⟨c0, c1, c2, c3, c4⟩ := h3 i hi
    exact ⟨(World.cell?_of_block (w := w) (a := ⟨b, off + i * 5, none⟩) hb).trans c0, (World.cell?_of_block (w := w) (a := ⟨b, off + i * 5 + 1, none⟩) hb).trans c1, (World.cell?_of_block (w := w) (a := ⟨b, off + i * 5 + 2, none⟩) hb).trans c2, (World.cell?_of_block (w := w) (a := ⟨b, off + i * 5 + 3, none⟩) hb).trans c3, (World.cell?_of_block (w := w) (a := ⟨b, off + i * 5 + 4, none⟩) hb).trans c4⟩
theorem OwnB.later {w w' : World} {base : Nat} {t : TypeId} {v : Value} {l : List Blk} (h : OwnB w base t v l) (hg : w.grownBy w' none) : OwnB w' base t v l := own_kept h hg
theorem OwnB.mono {w : World} {base base' : Nat} {t : TypeId} {v : Value} {l : List Blk} (h : OwnB w base t v l) (hb : base' ≤ base) : OwnB w base' t v l := World.ownsRow.mono h hb
theorem OwnB.at_ {w : World} {base : Nat} {t : TypeId} {v : Value} {l : List Blk} (h : OwnB w base t v l) : ∃ la c, v = .slice la l.length c ∧ BlksAt w la l := by
  rcases h.2 with ⟨h1, h2⟩ | ⟨g, cap, cur, hv, hbg, hg, rest⟩
  · exact ⟨none, 0, by rw [h1, h2], ⟨fun h => by omega⟩⟩
  · refine ⟨_, cap, hv, ⟨fun _ => ⟨g, 0, rfl, lt_of_block hg, fun k hk => ?_⟩⟩⟩
    have h' := h
    unfold OwnB at h'
    rw [hv] at h'
    have hl := cellsB_len l
    have c0 := (World.ownsRow.cellAt h' (k * 5) (by omega)).trans (cellsB_at l k 0 hk (by decide))
    have c1 := (World.ownsRow.cellAt h' (k * 5 + 1) (by omega)).trans (cellsB_at l k 1 hk (by decide))
    have c2 := (World.ownsRow.cellAt h' (k * 5 + 2) (by omega)).trans (cellsB_at l k 2 hk (by decide))
    have c3 := (World.ownsRow.cellAt h' (k * 5 + 3) (by omega)).trans (cellsB_at l k 3 hk (by decide))
    have c4 := (World.ownsRow.cellAt h' (k * 5 + 4) (by omega)).trans (cellsB_at l k 4 hk (by decide))
    rw [Nat.zero_add]
    exact ⟨c0, c1, c2, c3, c4⟩
/-! the first one that is asked for -/
def fstN (p : Blk → Bool) : List Blk → Option Nat
  | [] => none
  | b :: r => if p b = true then some 0 else (fstN p r).map (· + 1)
def fstZ (p : Blk → Bool) (l : List Blk) : Int := match fstN p l with | some i => (i : Int) | none => -1
section
variable {p : Blk → Bool} {l : List Blk}
theorem fstN_is {k : Nat} (h : k < l.length) (hx : p (l.getD k default) = true) (hj : ∀ j, j < k → p (l.getD j default) = false) : fstN p l = some k := by
  induction l generalizing k with
  | nil => simp at h
  | cons b r ih =>
    unfold fstN
    cases k with
    | zero =>
      have : p b = true := by simpa using hx
      rw [if_pos this]
    | succ k =>
      have h0 : p b = false := by simpa using hj 0 (Nat.succ_pos k)
      rw [if_neg (by simp [h0]), ih (k := k) (by simpa using h) (by simpa using hx) (fun j hj' => by simpa using hj (j + 1) (Nat.succ_lt_succ hj'))]
      rfl
theorem fstN_not (hj : ∀ j, j < l.length → p (l.getD j default) = false) : fstN p l = none := by
  induction l with
  | nil => rfl
  | cons b r ih =>
    unfold fstN
    have h0 : p b = false := by simpa using hj 0 (by simp)
    rw [if_neg (by simp [h0]), ih (fun j hj' => by simpa using hj (j + 1) (by simpa using hj'))]
    rfl
theorem fstN_some {k : Nat} (h : fstN p l = some k) : k < l.length ∧ p (l.getD k default) = true := by
  induction l generalizing k with
  | nil => cases h
  | cons b r ih =>
    unfold fstN at h
    split at h
    · rename_i e
      injection h with h
      subst h
      exact ⟨by simp, by simpa using e⟩
    · cases e : fstN p r with
      | none => rw [e] at h; cases h
      | some i =>
        rw [e] at h
        injection h with h
        subst h
        obtain ⟨h1, h2⟩ := ih e
        exact ⟨by simpa using h1, by simpa using h2⟩
theorem fstN_skip {k : Nat} (h : fstN p l = some k) : ∀ j, j < k → p (l.getD j default) = false := by
  induction l generalizing k with
  | nil => cases h
  | cons b r ih =>
    unfold fstN at h
    split at h
    · injection h with h
      subst h
      intro j hj
      omega
    · rename_i e0
      cases e : fstN p r with
      | none => rw [e] at h; cases h
      | some i =>
        rw [e] at h
        injection h with h
        subst h
        intro j hj
        cases j with
        | zero => simpa using e0
        | succ j => simpa using ih e j (Nat.lt_of_succ_lt_succ hj)
theorem fstN_none (h : fstN p l = none) : ∀ j, j < l.length → p (l.getD j default) = false := by
  intro j hj
  cases e : p (l.getD j default) with
  | false => rfl
  | true =>
    exfalso
    induction l generalizing j with
    | nil => simp at hj
    | cons b r ih =>
      unfold fstN at h
      split at h
      · cases h
      · rename_i e0
        have h' : fstN p r = none := by
          cases e1 : fstN p r with
          | none => rfl
          | some i => rw [e1] at h; cases h
        cases j with
        | zero => exact e0 (by simpa using e)
        | succ j => exact ih h' j (by simpa using hj) (by simpa using e)
end
/-- so many places behind the first one that is asked for -/
def besN (p : Blk → Bool) (l : List Blk) (d : Int) : Option Blk :=
  match fstN p l with
  | none => none
  | some i => if 0 ≤ (i : Int) + d ∧ (i : Int) + d < l.length then some (l.getD ((i : Int) + d).toNat default) else none
def besB (p : Blk → Bool) (l : List Blk) (d : Int) : Blk := (besN p l d).getD Blk.none
def pO (off : Nat) (b : Blk) : Bool := decide (b.off = off)
def pF (payload : Nat) (b : Blk) : Bool := b.u && decide ((b.off + 32) % 18446744073709551616 = payload)
/-! ### the closures -/
/-! ### IndexFunc -/
theorem fstZ_is {p : Blk → Bool} {l : List Blk} {k : Nat} (h : k < l.length) (hx : p (l.getD k default) = true) (hj : ∀ j, j < k → p (l.getD j default) = false) : (k : Int) = fstZ p l := by
  unfold fstZ
  rw [fstN_is h hx hj]
theorem fstZ_not {p : Blk → Bool} {l : List Blk} (hj : ∀ j, j < l.length → p (l.getD j default) = false) : -1 = fstZ p l := by
  unfold fstZ
  rw [fstN_not hj]
/-- What is asked of a predicate over these blocks. -/
def Asks (g cb : Nat) (p : Blk → Bool) (w : World) : Prop := ∀ W, w.grownBy W none → ∀ b : Blk, Calls Tryz.prog g #[.agg #[.int .u64 (b.off : Nat), .int .u64 (b.s : Nat), .bool b.u, .int .i64 b.o, .int .u64 (b.n : Nat)], .pointer (some ⟨cb, 0, none⟩)] W fun e w' => e = .returned (.bool (p b)) ∧ W.grownBy w' none
theorem Asks.later {g cb : Nat} {p : Blk → Bool} {w w' : World} (h : Asks g cb p w) (hg : w.grownBy w' none) : Asks g cb p w' := fun W hW b => h W (grown_trans hg hW) b
end Go.Proofs.YthhboidjibdahaaGreat

/-
  Package phys: the contracts of beside, Before, After, Find and Merged.
  Conditions: the blocks lie in memory; there are 1000000 at most; the Tx stands in memory.
-/
namespace Go.Proofs.YthhboidjibdahaaGreat
open Go.RowKit
set_option linter.unusedVariables false
set_option linter.unusedSimpArgs false

/-- a block as a value -/
def Blk.val (b : Blk) : Value := .agg #[.int .u64 (b.off : Nat), .int .u64 (b.s : Nat), .bool b.u, .int .i64 b.o, .int .u64 (b.n : Nat)]
def zeroB : Value := .agg #[.int .u64 0, .int .u64 0, .bool false, .int .i64 0, .int .u64 0]
section
variable {w : World} {T M : Nat} {R : Option Nat} {B D : Nat} {ws : List Nat} {l : List (Nat × Nat)}
/-- how many blocks there are, and whether they end at the heap's end; none, where the head isn't checked -/
structure Heap (ws : List Nat) (l : List (Nat × Nat)) (bl : List Blk) (err : Nat) : Prop where
  is : (chkN ws l = 12 ∧ bl = [] ∧ err = 12) ∨ (chkN ws l = 0 ∧ ∃ N ok, Walks (txSee ws l) N ok ∧ bl = wkL (txSee ws l) N ok ∧ err = wkE ok)
  len : bl.length ≤ 1000000
theorem chk_or (ws : List Nat) (l : List (Nat × Nat)) : chkN ws l = 0 ∨ chkN ws l = 12 := by
  unfold chkN
  split
  · exact .inl rfl
  · exact .inr rfl
theorem heap_some (ws : List Nat) (l : List (Nat × Nat)) (hm : ws.length ≤ 131072) : ∃ bl err, Heap ws l bl err := by
  rcases chk_or ws l with hc | hc
  · obtain ⟨N, ok, hw⟩ := walks_some (txSee ws l)
    refine ⟨_, _, .inr ⟨hc, N, ok, hw, rfl, rfl⟩, ?_⟩
    have h1 := hw.len
    have h2 : chkP ws l := by
      unfold chkN at hc
      split at hc
      · assumption
      · cases hc
    have h3 := h2.1.2.2
    unfold wkL
    split
    · rw [blks_len]; omega
    · exact Nat.zero_le _
  · exact ⟨[], 12, .inl ⟨hc, rfl, rfl⟩, Nat.zero_le _⟩
theorem walks_small {ws : List Nat} {l : List (Nat × Nat)} (hm : ws.length ≤ 131072) (hc : chkN ws l = 0) {N : Nat} {ok : Bool} (hw : Walks (txSee ws l) N ok) : N ≤ 1000000 := by
  have h1 := hw.len
  have h2 : chkP ws l := by
    unfold chkN at hc
    split at hc
    · assumption
    · cases hc
  have h3 := h2.1.2.2
  omega
end
theorem ret_boolq {a b : Bool} (h : a = b) : Ending.returned (.bool a) = .returned (.bool b) := by rw [h]
/-! ### Merged -/
def mergedL (l : List Blk) : Bool := (List.range l.length).all fun i => i == 0 || gU l (i - 1) || gU l i
theorem merged_yes {l : List Blk} {n : Nat} (hn : l.length = n) (h : ∀ j, j < n → 1 ≤ j → ¬ (gU l (j - 1) = false ∧ gU l j = false)) : true = mergedL l := by
  unfold mergedL
  refine (List.all_eq_true.2 fun i hi => ?_).symm
  have h1 := h i (by rw [← hn]; exact List.mem_range.1 hi)
  by_cases h0 : i = 0
  · simp [h0]
  · have h2 := h1 (by omega)
    cases e1 : gU l (i - 1) <;> cases e2 : gU l i <;> simp_all
theorem merged_no {l : List Blk} {k : Nat} (hk : k < l.length) (h1 : 1 ≤ k) (h2 : gU l (k - 1) = false) (h3 : gU l k = false) : false = mergedL l := by
  unfold mergedL
  refine (List.all_eq_false.2 ⟨k, List.mem_range.2 hk, ?_⟩).symm
  simp [h2, h3]
  omega
end Go.Proofs.YthhboidjibdahaaGreat

/-
  Blocks that are laid one behind the other, as plain mathematics of layer 6.
  No condition.
-/
namespace Go.Proofs.YthhboidjibdahaaGreat
open Go.RowKit
set_option linter.unusedVariables false
set_option linter.unusedSimpArgs false

theorem offs_step {f : Nat → Nat} {n : Nat} (h : ∀ k, k < n → bkP f (offs f k)) {i j : Nat} (hij : i < j) (hj : j ≤ n) : offs f i + usz (f (offs f i)) ≤ offs f j ∧ offs f i + 48 ≤ offs f j := by
  induction j with
  | zero => omega
  | succ j ih =>
    have h2 := (bk_ge (h j (by omega))).1
    have e : offs f (j + 1) = offs f j + usz (f (offs f j)) := rfl
    rcases Nat.lt_succ_iff_lt_or_eq.1 hij with h3 | rfl
    · have := ih h3 (by omega); omega
    · omega
/-- what stands ahead of off hangs on the words ahead of it alone -/
theorem bkP_ahead {f g : Nat → Nat} {off x : Nat} (he : ∀ y, y < off → g y = f y) (h : bkP f x) (hx : x + usz (f x) ≤ off) : bkP g x ∧ usz (g x) = usz (f x) := by
  have h1 := bk_ge h
  have e1 : g x = f x := he x (by omega)
  have e2 : g 16 = f 16 := he 16 (by omega)
  have e3 : g (x + usz (f x) - 8) = f (x + usz (f x) - 8) := he _ (by omega)
  have e4 : g (x + 8) = f (x + 8) := he _ (by omega)
  refine ⟨?_, by rw [e1]⟩
  unfold bkP rdP at h ⊢
  rw [e1, e2, e3, e4]
  exact h
theorem offs_ahead {f g : Nat → Nat} {n off : Nat} (h : ∀ k, k < n → bkP f (offs f k)) (ho : offs f n = off) (he : ∀ y, y < off → g y = f y) : ∀ k, k ≤ n → offs g k = offs f k ∧ (k < n → bkP g (offs g k)) := by
  intro k
  induction k with
  | zero =>
    intro _
    refine ⟨rfl, fun hk => ?_⟩
    exact (bkP_ahead he (h 0 hk) (by rw [← ho]; exact (offs_step h hk (Nat.le_refl _)).1)).1
  | succ k ih =>
    intro hk
    obtain ⟨e1, h1⟩ := ih (by omega)
    have hb := bkP_ahead he (h k (by omega)) (by rw [← ho]; exact (offs_step h (by omega) (Nat.le_refl _)).1)
    have e2 : offs g (k + 1) = offs f (k + 1) := by
      show offs g k + usz (g (offs g k)) = offs f k + usz (f (offs f k))
      rw [e1, hb.2]
    refine ⟨e2, fun hk2 => ?_⟩
    rw [e2]
    exact (bkP_ahead he (h (k + 1) hk2) (by rw [← ho]; exact (offs_step h hk2 (Nat.le_refl _)).1)).1
/-- So many blocks are laid from the heap's begin on, up to off. -/
structure LayP (ws : List Nat) (l : List (Nat × Nat)) (off n : Nat) : Prop where
  ok : TxOk ws l
  low : ∀ x, x < 3776 → txSee ws l x = txSee ws [] x
  at_ : offs (txSee ws l) n = off
  good : ∀ k, k < n → bkP (txSee ws l) (offs (txSee ws l) k)
  al : off % 16 = 0 ∧ 3776 ≤ off
/-- the words that a block takes -/
def layB (ws : List Nat) (l : List (Nat × Nat)) (off s p : Nat) : List (Nat × Nat) := txStore ws (txStore ws l off p) (off + s - 8) p
theorem layB_see {ws : List Nat} {l : List (Nat × Nat)} {off s p : Nat} (h1 : stands ws off) (h2 : stands ws (off + s - 8)) (h48 : 48 ≤ s) : txSee ws (layB ws l off s p) off = p ∧ txSee ws (layB ws l off s p) (off + s - 8) = p ∧ ∀ x, x ≠ off → x ≠ off + s - 8 → txSee ws (layB ws l off s p) x = txSee ws l x := by
  unfold layB
  refine ⟨?_, ?_, fun x h3 h4 => ?_⟩
  · rw [see_stored h2, if_neg (by omega), see_stored h1, if_pos rfl]
  · rw [see_stored h2, if_pos rfl]
  · rw [see_stored h2, if_neg h4, see_stored h1, if_neg h3]
theorem fmt4480 : fitsP 4480 4800 := by unfold fitsP; omega
theorem see4480 : txSee (fmt48 4480) [] 16 = 4480 := by rw [fmt48_yes fmt4480, see_nil]; exact fmt48_16 fmt4480
theorem LayP.first : LayP (fmt48 4480) [] 3776 0 := ⟨TxOk.empty _, fun _ _ => rfl, rfl, fun k hk => absurd hk (Nat.not_lt_zero _), by omega⟩
section
variable {l : List (Nat × Nat)} {off n : Nat}
theorem LayP.top (h : LayP (fmt48 4480) l off n) : txSee (fmt48 4480) l 16 = 4480 := by rw [h.low 16 (by decide)]; exact see4480
/-- a block is laid behind, m: how its words are otherwise thought of -/
theorem LayP.next (h : LayP (fmt48 4480) l off n) {s : Nat} {u : Bool} {o : Nat} (hm : mayP s u o) (hs : off + s ≤ 4480) {l' : List (Nat × Nat)} (hok : TxOk (fmt48 4480) l') (h1 : txSee (fmt48 4480) l' off = packN s u o) (h2 : txSee (fmt48 4480) l' (off + s - 8) = packN s u o) (h3 : u = true → txSee (fmt48 4480) l' (off + 8) + 40 ≤ s)
    (h4 : ∀ x, x < off → txSee (fmt48 4480) l' x = txSee (fmt48 4480) l x) : LayP (fmt48 4480) l' (off + s) (n + 1) := by
  have hal := h.al
  have ha := offs_ahead (g := txSee (fmt48 4480) l') h.good h.at_ h4
  have e16 : txSee (fmt48 4480) l' 16 = 4480 := by rw [h4 16 (by omega)]; exact h.top
  have hoff := (ha n (Nat.le_refl _)).1
  rw [h.at_] at hoff
  obtain ⟨_, p2, p3, p4, p5⟩ := unpack_pack hm
  have hmm := hm
  unfold mayP at hmm
  refine ⟨hok, fun x hx => (h4 x (by omega)).trans (h.low x hx), ?_, fun k hk => ?_, by omega⟩
  · show offs (txSee (fmt48 4480) l') n + usz (txSee (fmt48 4480) l' (offs (txSee (fmt48 4480) l') n)) = off + s
    rw [hoff, h1, p3]
  · rcases Nat.lt_succ_iff_lt_or_eq.1 hk with h5 | rfl
    · exact (ha k (by omega)).2 h5
    · rw [hoff]
      unfold bkP rdP
      rw [h1, p3, p4, e16]
      exact ⟨⟨p2, by unfold inP; omega, h2⟩, h3⟩
/-- The heap of a segment in which blocks are laid. -/
structure Laid6 (l : List (Nat × Nat)) (N : Nat) : Prop where
  ok : TxOk (fmt48 4480) l
  chk : chkN (fmt48 4480) l = 0
  walks : Walks (txSee (fmt48 4480) l) N true
  ends : offs (txSee (fmt48 4480) l) N = 4480
  some : 0 < N
theorem LayP.done (h : LayP (fmt48 4480) l 4480 n) (hn : 0 < n) : Laid6 l n := by
  refine ⟨h.ok, ?_, ⟨fun k hk => ⟨?_, h.good k hk⟩, ?_⟩, h.at_, hn⟩
  · have hc : chkP (fmt48 4480) l := by
      unfold chkP
      rw [h.low 16 (by decide), h.low 0 (by decide), h.low 8 (by decide), h.low 40 (by decide), fmt48_len, see4480, see_nil, see_nil, see_nil, fmt48_yes fmt4480]
      exact ⟨fmt4480, fmt48_0 fmt4480, fmt48_8 fmt4480, fmt48_40 fmt4480⟩
    exact if_pos hc
  · rw [h.top]
    have := (bk_ge (h.good k hk)).2.2.1
    rw [h.top] at this
    exact this
  · rw [if_pos rfl, h.top, h.at_]
    exact Nat.le_refl _
end
end Go.Proofs.YthhboidjibdahaaGreat

/-
  Layer 5's plain answer Write, where a block is laid.
  Conditions: the plain Tx stands in memory; there are 131072 words at most.
-/
namespace Go.Proofs.YthhboidjibdahaaGreat
open Go.RowKit
set_option linter.unusedVariables false
set_option linter.unusedSimpArgs false

/-- the three boxes that Write makes first, whatever is made behind them -/
theorem three_boxes {w w' : World} {a b c x y p q : Value} {t t2 t3 : TypeId} (hg : (((w.alloc (.cells #[x, y] t)).alloc (.cells #[a, b, c] t2)).alloc (.cells #[p, q] t3)).grownBy w' none) :
    w'.heap[w.heap.size]? = some (.cells #[x, y] t (0, 0)) ∧ w'.heap[w.heap.size + 1]? = some (.cells #[a, b, c] t2 (0, 0)) ∧ w'.heap[w.heap.size + 2]? = some (.cells #[p, q] t3 (0, 0)) := by
  have hga := World.grownBy_alloc ((w.alloc (.cells #[x, y] t)).alloc (.cells #[a, b, c] t2)) (.cells #[p, q] t3) none
  obtain ⟨h1, h2⟩ := two_first (grown_trans hga hg)
  have h3 := heap_alloc_new' ((w.alloc (.cells #[x, y] t)).alloc (.cells #[a, b, c] t2)) (.cells #[p, q] t3)
  rw [World.size_alloc, World.size_alloc] at h3
  exact ⟨h1, h2, (hg.block _ (lt_of_block h3) (by simp)).trans h3⟩
section
variable {w : World} {base : Nat} {wv pv : Value} {ws : List Nat} {l : List (Nat × Nat)}
set_option maxRecDepth 100000 in
set_option maxHeartbeats 4000000 in
theorem rtwrite_yes (h : RTx w base wv pv ws l) (hbase : base ≤ w.heap.size) (hm : ws.length ≤ 131072) (hl : l.length ≤ 1000) (hok : TxOk ws l) (hlt : ∀ x ∈ ws, x < 18446744073709551616) (off s : Nat) (u : Bool) (o : Int) (ho : off < 18446744073709551616) (hmy : mayP s u o) (hin : inP (txSee ws l 16) off s) :
    Calls Tryz.prog 41 #[.agg #[wv, pv], .int .u64 off, .agg #[.int .u64 s, .bool u, .int .i64 o]] w fun e w' => ∃ pv', e = .returned (.tuple #[.agg #[wv, pv'], .int .i64 0]) ∧ RTx w' base wv pv' ws (txStore ws (txStore ws l off (packN s u o)) (off + s - 8) (packN s u o)) ∧ w.grownBy w' none := by
  obtain ⟨wa, wn, wc, hwv⟩ := wv_form h.words
  subst hwv
  obtain ⟨pa, pn, pc, hpv⟩ := pv_form h.puts
  subst hpv
  have hg0 : w.grownBy (((w.alloc (.cells #[.slice wa wn wc, .slice pa pn pc] 29)).alloc (.cells #[.int .u64 s, .bool u, .int .i64 o] 57)).alloc (.cells #[.slice none 0 0, .slice none 0 0] 29)) none := grown_trans (World.grownBy_alloc _ _ _) (grown_trans (World.grownBy_alloc _ _ _) (World.grownBy_alloc _ _ _))
  obtain ⟨W0, eW0⟩ : ∃ W0, ((w.alloc (.cells #[.slice wa wn wc, .slice pa pn pc] 29)).alloc (.cells #[.int .u64 s, .bool u, .int .i64 o] 57)).alloc (.cells #[.slice none 0 0, .slice none 0 0] 29) = W0 := ⟨_, rfl⟩
  have hbx : ∀ {w' : World}, W0.grownBy w' none → w'.heap[w.heap.size]? = some (.cells #[.slice wa wn wc, .slice pa pn pc] 29 (0, 0)) ∧ w'.heap[w.heap.size + 1]? = some (.cells #[.int .u64 s, .bool u, .int .i64 o] 57 (0, 0)) ∧ w'.heap[w.heap.size + 2]? = some (.cells #[.slice none 0 0, .slice none 0 0] 29 (0, 0)) := fun {w'} hg => by
    rw [← eW0] at hg
    exact three_boxes hg
  rw [eW0] at hg0
  have hltf := txSee_lt hlt hok
  have hmay := fun w => rtmay_any s u o w
  rw [decide_eq_true hmy] at hmay
  have hin1 := fun (w1 : World) (hg : w.grownBy w1 none) => rtin_any (h.later hg) hm (by omega) (hltf 16) off s
  rw [decide_eq_true hin] at hin1
  have hpk := fun w => rtpack_any s u o w
  have hz : off + s < 18446744073709551616 ∧ 48 ≤ s := by have := hltf 16; unfold inP at hin; unfold mayP at hmy; omega
  have hp64 : packN s u o < 18446744073709551616 := by
    unfold packN
    rw [if_pos hmy]
    unfold mayP at hmy
    cases u <;> simp only [if_true, if_false, Bool.false_eq_true] <;> omega
  obtain ⟨p, hp⟩ : ∃ p, packN s u o = p := ⟨_, rfl⟩
  rw [hp] at hpk hp64 ⊢
  obtain ⟨b, hb⟩ : ∃ b, off + s - 8 = b := ⟨_, rfl⟩
  rw [hb]
  have e1 : IntKind.u64.wrap (IntKind.u64.wrap ((off : Int) + (s : Int)) - 8) = (b : Nat) := by rw [IntKind.wrap_u64, IntKind.wrap_u64]; omega
  have e2 : IntKind.u64.wrap ((off : Int) + (s : Int)) = (off : Int) + (s : Int) := by rw [IntKind.wrap_u64]; omega
  have e3 : IntKind.u64.wrap ((off : Int) + (s : Int) - 8) = (b : Nat) := by rw [IntKind.wrap_u64]; omega
  have hl1 : (txStore ws l off p).length ≤ 1000000 := by
    unfold txStore
    split
    · rw [txSet_len]; split <;> omega
    · omega
  have hs1 := fun (w1 : World) (hg : w.grownBy w1 none) => rtxstore_any (h.later hg) (Nat.le_trans hbase hg.size) hm (by omega) off p ho
  have hs2 := fun (w1 : World) (pv1 : Value) (h1 : RTx w1 base (.slice wa wn wc) pv1 ws (txStore ws l off p)) (hg : w.grownBy w1 none) => rtxstore_any h1 (Nat.le_trans hbase hg.size) hm hl1 b p (by omega)
  obtain ⟨A1, A2, A3⟩ := hbx (grown_refl W0 none)
  obtain ⟨a0, a1⟩ := two_cells A1
  obtain ⟨a2, a3, a4⟩ := tag_cells A2
  clear hmy hin hltf hlt hz hp hb A1 A2 A3
  go_enter Tryz.func41, Tryz.ntmps41
  go_wp2_with (first | (go_at_call 67; ((with_reducible refine (hmay _).mono ?_); rintro e w1 ⟨rfl, hg1⟩; obtain ⟨B1, B2, B3⟩ := hbx hg1; obtain ⟨x0, x1⟩ := two_cells B1; obtain ⟨y0, y1, y2⟩ := tag_cells B2; clear B1 B2 B3)) | (go_at_call 68; ((with_reducible refine (hin1 _ (grown_trans hg0 hg1)).mono ?_); rintro e w2 ⟨rfl, hg2⟩; have G2 := grown_trans hg1 hg2)))
  have hcell : ∀ {wr : World}, w2.grownBy wr none → (wr.cell? ⟨w.heap.size, 0, none⟩ = some (.slice wa wn wc) ∧ wr.cell? ⟨w.heap.size, 1, none⟩ = some (.slice pa pn pc)) ∧ wr.cell? ⟨w.heap.size + 1, 0, none⟩ = some (.int .u64 s) ∧ wr.cell? ⟨w.heap.size + 1, 1, none⟩ = some (.bool u) ∧ wr.cell? ⟨w.heap.size + 1, 2, none⟩ = some (.int .i64 o) := fun {wr} hg => by
    obtain ⟨B1, B2, B3⟩ := hbx (grown_trans G2 hg)
    exact ⟨two_cells B1, tag_cells B2⟩
  have hcellS : ∀ {wr : World} (x y : Value), w2.grownBy wr none → (((wr.setCell ⟨w.heap.size + 1 + 1, 0, none⟩ x).setCell ⟨w.heap.size + 1 + 1, 1, none⟩ y).cell? ⟨w.heap.size, 0, none⟩ = some (.slice wa wn wc) ∧ ((wr.setCell ⟨w.heap.size + 1 + 1, 0, none⟩ x).setCell ⟨w.heap.size + 1 + 1, 1, none⟩ y).cell? ⟨w.heap.size, 1, none⟩ = some (.slice pa pn pc)) ∧ ((wr.setCell ⟨w.heap.size + 1 + 1, 0, none⟩ x).setCell ⟨w.heap.size + 1 + 1, 1, none⟩ y).cell? ⟨w.heap.size + 1, 0, none⟩ = some (.int .u64 s) ∧ ((wr.setCell ⟨w.heap.size + 1 + 1, 0, none⟩ x).setCell ⟨w.heap.size + 1 + 1, 1, none⟩ y).cell? ⟨w.heap.size + 1, 1, none⟩ = some (.bool u) ∧ ((wr.setCell ⟨w.heap.size + 1 + 1, 0, none⟩ x).setCell ⟨w.heap.size + 1 + 1, 1, none⟩ y).cell? ⟨w.heap.size + 1, 2, none⟩ = some (.int .i64 o) := fun {wr} x y hg => by
    obtain ⟨B1, B2, B3⟩ := hbx (grown_trans G2 hg)
    have hs : wr.grownBy ((wr.setCell ⟨w.heap.size + 1 + 1, 0, none⟩ x).setCell ⟨w.heap.size + 1 + 1, 1, none⟩ y) (some (w.heap.size + 1 + 1)) := grown_trans (grown_set _ _ _ _) (grown_set _ _ _ _)
    exact ⟨two_cells ((hs.block _ (lt_of_block B1) (by simp; omega)).trans B1), tag_cells ((hs.block _ (lt_of_block B2) (by simp)).trans B2)⟩
  have HG : w2.grownBy w2.drew none := grown_drew (grown_refl _ _)
  have G0 := grown_trans hg0 G2
  clear x0 x1 y0 y1 y2 a0 a1 a2 a3 a4
  obtain ⟨⟨m0, m1⟩, n0, n1, n2⟩ := hcell HG
  go_region_held3 (fun wr => (wr.cell? ⟨w.heap.size, 0, none⟩ = some (.slice wa wn wc) ∧ wr.cell? ⟨w.heap.size, 1, none⟩ = some (.slice pa pn pc)) ∧ wr.cell? ⟨w.heap.size + 1, 0, none⟩ = some (.int .u64 s) ∧ wr.cell? ⟨w.heap.size + 1, 1, none⟩ = some (.bool u) ∧ wr.cell? ⟨w.heap.size + 1, 2, none⟩ = some (.int .i64 o)) (first | exact hcell HG | exact hcellS _ _ HG)
    (first | (go_at_call 69; ((with_reducible refine (hpk _).mono ?_); rintro e w9 ⟨rfl, hg9⟩; replace HG := grown_trans HG hg9; replace hr1 := hr1.later hg9)) | (go_at_call 69; ((with_reducible refine (hpk _).mono ?_); rintro e w9 ⟨rfl, hg9⟩; replace HG := grown_trans HG hg9)) | (go_at_call 39; ((with_reducible refine (hs1 _ (grown_trans G0 HG)).mono ?_); rintro e w9 ⟨pv1, rfl, hr1, hg9⟩; replace HG := grown_trans HG hg9)) | (go_at_call 39; ((with_reducible refine (hs2 _ _ hr1 (grown_trans G0 HG)).mono ?_); rintro e w9 ⟨pv2, rfl, hr2, hg9⟩; obtain ⟨qa, qn, qc, hq⟩ := pv_form hr2.puts; subst hq; replace HG := grown_trans HG hg9; obtain ⟨_, _, B3⟩ := hbx (grown_trans G2 HG); obtain ⟨r0, r1⟩ := two_cells B3; have fr0 : w9.frozen? ⟨w.heap.size + 2, 0, none⟩ = false := (by simp [World.frozen?, B3]); have fr1 : w9.frozen? ⟨w.heap.size + 2, 1, none⟩ = false := (by simp [World.frozen?, B3]))))
  have hs : w9.grownBy ((w9.setCell ⟨w.heap.size + 1 + 1, 0, none⟩ (.slice wa wn wc)).setCell ⟨w.heap.size + 1 + 1, 1, none⟩ (.slice qa qn qc)) (some (w.heap.size + 1 + 1)) := grown_trans (grown_set _ _ _ _) (grown_set _ _ _ _)
  obtain ⟨_, _, B3⟩ := hbx (grown_trans G2 HG)
  have hrt := hr2.other B3 hs
  have hend := grown_new (grown_trans (grown_any (grown_trans G0 HG) _) hs) (by omega)
  have B4 : ((w9.setCell ⟨w.heap.size + 1 + 1, 0, none⟩ (.slice wa wn wc)).setCell ⟨w.heap.size + 1 + 1, 1, none⟩ (.slice qa qn qc)).heap[w.heap.size + 1 + 1]? = some (.cells #[.slice wa wn wc, .slice qa qn qc] 29 (0, 0)) := by
    rw [heap_setCell_same (heap_setCell_same B3 _) _]; rfl
  obtain ⟨k0, k1⟩ := two_cells B4
  have HE := Lib.hid hrt
  clear B3 B4 hrt hs r0 r1 fr0 fr1
  go_wp2
  refine bodyPost_ret (v := .tuple #[.agg #[.slice wa wn wc, .slice qa qn qc], .int .i64 0]) (by simp [results, Tryz.results41, go_sem, k0, k1]) rfl ?_
  exact ⟨_, rfl, HE.out, hend⟩
end
end Go.Proofs.YthhboidjibdahaaGreat

/-
  Layer 6's plain answer Lay: blocks are laid one behind the other, and what is left is free.
  Conditions: the plain Tx is a formatted segment's of 4800 bytes, of which 4480 are used; the pieces lie in memory; there are 20 at most.
-/
namespace Go.Proofs.YthhboidjibdahaaGreat
open Go.RowKit
set_option linter.unusedVariables false
set_option linter.unusedSimpArgs false

/-- Pieces lie in memory. -/
structure PiecesAt (w : World) (la : Option Addr) (n : Nat) (A B C : Nat → Nat) : Prop where
  lt : ∀ i, A i < 256 ∧ B i < 256 ∧ C i < 65536
  cells : 0 < n → ∃ b off, la = some ⟨b, off, none⟩ ∧ b < w.heap.size ∧ ∀ i, i < n → w.cell? ⟨b, off + i * 3, none⟩ = some (.int .u8 (A i : Nat)) ∧ w.cell? ⟨b, off + i * 3 + 1, none⟩ = some (.int .u8 (B i : Nat)) ∧ w.cell? ⟨b, off + i * 3 + 2, none⟩ = some (.int .u16 (C i : Nat))
theorem PiecesAt.later {w w' : World} {la : Option Addr} {n : Nat} {A B C : Nat → Nat} (h : PiecesAt w la n A B C) (hg : w.grownBy w' none) : PiecesAt w' la n A B C where
  lt := h.lt
  cells := fun hn => by
    obtain ⟨b, off, h1, h2, h3⟩ := h.cells hn
    refine ⟨b, off, h1, Nat.lt_of_lt_of_le h2 hg.size, fun i hi => ?_⟩
    have hb := hg.block b h2 (by simp)
    obtain ⟨c0, c1, c2⟩ := h3 i hi
    exact ⟨(World.cell?_of_block (w := w) (a := ⟨b, off + i * 3, none⟩) hb).trans c0, (World.cell?_of_block (w := w) (a := ⟨b, off + i * 3 + 1, none⟩) hb).trans c1, (World.cell?_of_block (w := w) (a := ⟨b, off + i * 3 + 2, none⟩) hb).trans c2⟩
theorem PiecesAt.less {w : World} {la : Option Addr} {n m : Nat} {A B C : Nat → Nat} (h : PiecesAt w la n A B C) (hm : m ≤ n) : PiecesAt w la m A B C where
  lt := h.lt
  cells := fun hn => by
    obtain ⟨b, off, h1, h2, h3⟩ := h.cells (by omega)
    exact ⟨b, off, h1, h2, fun i hi => h3 i (by omega)⟩
/-- What holds at the head of Lay's loop. -/
structure LyRel (w : World) (base : Nat) (wv : Value) (k off : Nat) (wr : World) : Prop where
  is : ∃ l n pv, n ≤ k ∧ LayP (fmt48 4480) l off n ∧ off + 48 ≤ 4480 ∧ RTx wr base wv pv (fmt48 4480) l ∧ wr.heap[w.heap.size]? = some (.cells #[wv, pv] 29 (0, 0))
  since : w.grownBy wr none
  res : wr.heap[w.heap.size + 1]? = some (.cells #[.slice none 0 0, .slice none 0 0] 29 (0, 0))
set_option maxRecDepth 100000 in
set_option maxHeartbeats 8000000 in
theorem rlay_any {w : World} {base : Nat} {wv pv : Value} (h : RTx w base wv pv (fmt48 4480) []) (hbase : base ≤ w.heap.size) (hlt : ∀ x ∈ fmt48 4480, x < 18446744073709551616) {la : Option Addr} {n c : Nat} {A B C : Nat → Nat} (hp : PiecesAt w la n A B C) (hn : n ≤ 20) :
    Calls Tryz.prog 20 #[.agg #[wv, pv], .slice la n c] w fun e w' => ∃ l pv' N, e = .returned (.agg #[wv, pv']) ∧ RTx w' base wv pv' (fmt48 4480) l ∧ Laid6 l N ∧ w.grownBy w' none := by
  have hl6 : (fmt48 4480).length ≤ 131072 := by rw [fmt48_len]; decide
  have hl16 : ∀ (w1 : World) (pv : Value) (l : List (Nat × Nat)) (h : RTx w1 base wv pv (fmt48 4480) l) (hl : l.length ≤ 1000), Calls Tryz.prog 40 #[.agg #[wv, pv], .int .u64 16] w1 _ := fun w1 pv l h hl => rtxload_any h hl6 (by omega) 16 (by decide)
  have hwr := fun (w1 : World) (pv : Value) (l : List (Nat × Nat)) (h : RTx w1 base wv pv (fmt48 4480) l) (hb : base ≤ w1.heap.size) (hok : TxOk (fmt48 4480) l) (hl : l.length ≤ 1000) (off s : Nat) (u : Bool) (o : Int) (ho : off < 18446744073709551616) (hmy : mayP s u o) (hin : inP (txSee (fmt48 4480) l 16) off s) =>
    rtwrite_yes h hb hl6 hl hok hlt off s u o ho hmy hin
  have hst := fun (w1 : World) (pv : Value) (l : List (Nat × Nat)) (h : RTx w1 base wv pv (fmt48 4480) l) (hb : base ≤ w1.heap.size) (hl : l.length ≤ 1000000) (off v : Nat) (ho : off < 18446744073709551616) => rtxstore_any h hb hl6 hl off v ho
  obtain ⟨wa, wn, wc, hwv⟩ := wv_form h.words
  subst hwv
  obtain ⟨pa, pn, pc, hpv⟩ := pv_form h.puts
  subst hpv
  have hg0 : w.grownBy ((w.alloc (.cells #[.slice wa wn wc, .slice pa pn pc] 29)).alloc (.cells #[.slice none 0 0, .slice none 0 0] 29)) none := grown_trans (World.grownBy_alloc _ _ _) (World.grownBy_alloc _ _ _)
  have hb0 : ((w.alloc (.cells #[.slice wa wn wc, .slice pa pn pc] 29)).alloc (.cells #[.slice none 0 0, .slice none 0 0] 29)).heap[w.heap.size]? = some (.cells #[.slice wa wn wc, .slice pa pn pc] 29 (0, 0)) := (Below.heap_alloc _ _ _ (by simp)).trans (heap_alloc_new' w _)
  have hb1 : ((w.alloc (.cells #[.slice wa wn wc, .slice pa pn pc] 29)).alloc (.cells #[.slice none 0 0, .slice none 0 0] 29)).heap[w.heap.size + 1]? = some (.cells #[.slice none 0 0, .slice none 0 0] 29 (0, 0)) := by
    have := heap_alloc_new' (w.alloc (.cells #[.slice wa wn wc, .slice pa pn pc] 29)) (.cells #[.slice none 0 0, .slice none 0 0] 29)
    rwa [World.size_alloc] at this
  obtain ⟨m0, m1⟩ := two_cells hb0
  have hl0 := hl16 _ _ _ (h.later hg0) (Nat.zero_le _)
  rw [see4480] at hl0
  simp only [show ((4480 : Nat) : Int) = 4480 from rfl] at hl0
  go_enter Tryz.func20, Tryz.ntmps20
  go_wp2_with (go_at_call 40; (with_reducible refine hl0.mono ?_); rintro e w1 ⟨rfl, hg1⟩)
  have R0 : LyRel w base (.slice wa wn wc) 0 3776 w1 := ⟨⟨[], 0, _, Nat.le_refl _, LayP.first, by decide, (h.later hg0).later hg1, (hg1.block _ (lt_of_block hb0) (by simp)).trans hb0⟩, grown_trans hg0 hg1, (hg1.block _ (lt_of_block hb1) (by simp)).trans hb1⟩
  clear h hb0 hb1 m0 m1 hl0 hg0 hg1
  go_loopw [5, 7] (fun o i wr => ∃ k off : Nat, k ≤ n ∧ i = .int .i64 k ∧ o = .int .u64 off ∧ LyRel w base (.slice wa wn wc) k off wr) (fun _ i _ => n - (intOf i).toNat)
  case atStart => exact ⟨0, 3776, Nat.zero_le _, rfl, rfl, R0⟩
  case round =>
    obtain ⟨k, off, hk, rfl, rfl, R⟩ := hrel
    clear R0
    obtain ⟨⟨l, q, pv, hq, hL, h48, hrt, hbox⟩, hsince, hres⟩ := R
    obtain ⟨qa, qn, qc, hqv⟩ := pv_form hrt.puts
    subst hqv
    have hal := hL.al
    have hll : l.length ≤ 600 := by have := hL.ok.len; rwa [fmt48_len] at this
    obtain ⟨m0, m1⟩ := two_cells hbox
    rcases Nat.lt_or_ge k n with h1 | h1
    · obtain ⟨b, o, rfl, hb, hcs⟩ := (hp.later hsince).cells (by omega)
      obtain ⟨c0, c1, c2⟩ := hcs k h1
      obtain ⟨a3, b3, c3⟩ := hp.lt k
      clear hcs
      obtain ⟨s, es⟩ : ∃ s : Nat, 48 + 16 * (A k % 8) = s := ⟨_, rfl⟩
      have es' : 48 + 16 * ((A k : Int) % 8) = (s : Nat) := by omega
      by_cases hB : B k % 10 = 0
      · have hB' : ¬ 0 < (B k : Int) % 10 := by omega
        have GX : wr.grownBy (wr.alloc (.cells #[.int .u64 s, .bool false, .int .i64 0] 57)) none := World.grownBy_alloc _ _ _
        have KX : (wr.alloc (.cells #[.int .u64 s, .bool false, .int .i64 0] 57)).heap[wr.heap.size]? = some (.cells #[.int .u64 s, .bool false, .int .i64 0] 57 (0, 0)) := heap_alloc_new' _ _
        have hrX := hrt.later GX
        have hboxX := (GX.block _ (lt_of_block hbox) (by simp)).trans hbox
        have hresX := (GX.block _ (lt_of_block hres) (by simp)).trans hres
        clear m0 m1
        obtain ⟨m0, m1⟩ := two_cells hboxX
        obtain ⟨x0, x1, x2⟩ := tag_cells KX
        by_cases hbr : 4480 < off + s + 48
        · have hbr' : 4480 < (off : Int) + (s : Int) + 48 := by omega
          have h16 := hL.top
          obtain ⟨s2, es2⟩ : ∃ s2, 4480 - off = s2 := ⟨_, rfl⟩
          have e7 : IntKind.u64.wrap (4480 - (off : Int)) = (s2 : Nat) := by rw [IntKind.wrap_u64]; omega
          have hmy2 : mayP s2 false (0 : Nat) := by unfold mayP; simp; omega
          have hin2 : inP (txSee (fmt48 4480) l 16) off s2 := by rw [h16]; unfold inP; omega
          have hend : Laid6 (layB (fmt48 4480) l off s2 (packN s2 false (0 : Nat))) (q + 1) := by
            have hs1 := stands48 (n := 4480) (off := off) (by omega) (by omega)
            have hs2 := stands48 (n := 4480) (off := off + s2 - 8) (by omega) (by omega)
            obtain ⟨g1, g2, g3⟩ := layB_see (l := l) (p := packN s2 false (0 : Nat)) hs1 hs2 (by omega)
            have : LayP (fmt48 4480) (layB (fmt48 4480) l off s2 (packN s2 false (0 : Nat))) (off + s2) (q + 1) := hL.next hmy2 (by omega) ((hL.ok.store off (unpack_pack hmy2).1).store (off + s2 - 8) (unpack_pack hmy2).1) g1 g2 (fun e => by cases e) (fun x hx => g3 x (by omega) (by omega))
            rw [show off + s2 = 4480 by omega] at this
            exact this.done (Nat.succ_pos _)
          have HEND := Lib.hid hend
          have hwr2 : Calls Tryz.prog 41 #[.agg #[.slice wa wn wc, .slice qa qn qc], .int .u64 off, .agg #[.int .u64 s2, .bool false, .int .i64 0]] (wr.alloc (.cells #[.int .u64 s, .bool false, .int .i64 0] 57)) _ := hwr (wr.alloc (.cells #[.int .u64 s, .bool false, .int .i64 0] 57)) _ l hrX (Nat.le_trans hbase (grown_trans hsince GX).size) hL.ok (by omega) off s2 false 0 (by omega) hmy2 hin2
          have G0 := grown_trans hsince GX
          clear hend hmy2 hin2 es2 h16 hL
          go_wp2_with (go_at_call 41; ((with_reducible refine hwr2.mono ?_); rintro e w5 ⟨pv5, rfl, hr5, hg5⟩; obtain ⟨qa5, qn5, qc5, hq5⟩ := pv_form hr5.puts; subst hq5; have hga := World.grownBy_alloc w5 (.cells #[.slice wa wn wc, .slice qa5 qn5 qc5] 29) none; have hZ := heap_alloc_new' w5 (.cells #[.slice wa wn wc, .slice qa5 qn5 qc5] 29); obtain ⟨z0, z1⟩ := two_cells hZ; have hR5 := ((grown_trans hg5 hga).block _ (lt_of_block hresX) (by simp)).trans hresX; obtain ⟨r0, r1⟩ := two_cells hR5; have fr0 : (w5.alloc (.cells #[.slice wa wn wc, .slice qa5 qn5 qc5] 29)).frozen? ⟨w.heap.size + 1, 0, none⟩ = false := (by simp [World.frozen?, hR5]); have fr1 : (w5.alloc (.cells #[.slice wa wn wc, .slice qa5 qn5 qc5] 29)).frozen? ⟨w.heap.size + 1, 1, none⟩ = false := (by simp [World.frozen?, hR5]); have HR5 := Lib.hid hR5; clear hR5))
          have hs : (w5.alloc (.cells #[.slice wa wn wc, .slice qa5 qn5 qc5] 29)).grownBy (((w5.alloc (.cells #[.slice wa wn wc, .slice qa5 qn5 qc5] 29)).setCell ⟨w.heap.size + 1, 0, none⟩ (.slice wa wn wc)).setCell ⟨w.heap.size + 1, 1, none⟩ (.slice qa5 qn5 qc5)) (some (w.heap.size + 1)) := grown_trans (grown_set _ _ _ _) (grown_set _ _ _ _)
          have hrE := (hr5.later hga).other HR5.out hs
          have hgE := grown_new (grown_trans (grown_any (grown_trans G0 (grown_trans hg5 hga)) _) hs) (by omega)
          have B4 : (((w5.alloc (.cells #[.slice wa wn wc, .slice qa5 qn5 qc5] 29)).setCell ⟨w.heap.size + 1, 0, none⟩ (.slice wa wn wc)).setCell ⟨w.heap.size + 1, 1, none⟩ (.slice qa5 qn5 qc5)).heap[w.heap.size + 1]? = some (.cells #[.slice wa wn wc, .slice qa5 qn5 qc5] 29 (0, 0)) := by
            rw [heap_setCell_same (heap_setCell_same HR5.out _) _]; rfl
          obtain ⟨k0, k1⟩ := two_cells B4
          refine bodyPost_ret (v := .agg #[.slice wa wn wc, .slice qa5 qn5 qc5]) (by simp [results, Tryz.results20, go_sem, k0, k1]) rfl ?_
          exact ⟨_, _, _, rfl, hrE, HEND.out, hgE⟩
        · have hbr' : ¬ 4480 < (off : Int) + (s : Int) + 48 := by omega
          have h16 := hL.top
          have hmy2 : mayP s false (0 : Nat) := by unfold mayP; simp; omega
          have hin2 : inP (txSee (fmt48 4480) l 16) off s := by rw [h16]; unfold inP; omega
          have hs1 := stands48 (n := 4480) (off := off) (by omega) (by omega)
          have hs2 := stands48 (n := 4480) (off := off + s - 8) (by omega) (by omega)
          obtain ⟨g1, g2, g3⟩ := layB_see (l := l) (p := packN s false (0 : Nat)) hs1 hs2 (by omega)
          have hokB : TxOk (fmt48 4480) (layB (fmt48 4480) l off s (packN s false (0 : Nat))) := (hL.ok.store off (unpack_pack hmy2).1).store (off + s - 8) (unpack_pack hmy2).1
          have hlenB : (layB (fmt48 4480) l off s (packN s false (0 : Nat))).length ≤ 1000000 := by have := hokB.len; rw [fmt48_len] at this; omega
          have hwr2 : Calls Tryz.prog 41 #[.agg #[.slice wa wn wc, .slice qa qn qc], .int .u64 off, .agg #[.int .u64 s, .bool false, .int .i64 0]] (wr.alloc (.cells #[.int .u64 s, .bool false, .int .i64 0] 57)) _ := hwr (wr.alloc (.cells #[.int .u64 s, .bool false, .int .i64 0] 57)) _ l hrX (Nat.le_trans hbase (grown_trans hsince GX).size) hL.ok (by omega) off s false 0 (by omega) hmy2 hin2
          have hnext : LayP (fmt48 4480) (layB (fmt48 4480) l off s (packN s false (0 : Nat))) (off + s) (q + 1) :=
            hL.next hmy2 (by omega) hokB g1 g2 (fun e => by cases e) (fun x hx => g3 x (by omega) (by omega))
          have HN := Lib.hid hnext
          have G0 := grown_trans hsince GX
          have e9 : (off : Int) + (s : Int) = ((off + s : Nat) : Int) := by omega
          obtain ⟨off2, eoff2⟩ : ∃ x, off + s = x := ⟨_, rfl⟩
          rw [eoff2] at e9 HN
          have HLB := Lib.hid hlenB
          have HOFF := Lib.hid eoff2
          have hoff3 : off2 + 48 ≤ 4480 := by omega
          have hbr2 : ¬ 4480 < (off2 : Int) + 48 := by omega
          clear hlenB eoff2 hL hbr hbr'
          clear hnext hmy2 hin2 h16 g1 g2 g3 hs1 hs2 hokB
          have hltw := lt_of_block hbox
          have n1 : ¬ wr.heap.size = w.heap.size := by omega
          have n2 : ¬ w.heap.size = wr.heap.size := by omega
          go_wp2_with (go_at_call 41; ((with_reducible refine hwr2.mono ?_); rintro e w5 ⟨pv5, rfl, hr5, hg5⟩; obtain ⟨qa5, qn5, qc5, hq5⟩ := pv_form hr5.puts; subst hq5; have hga := World.grownBy_alloc w5 (.cells #[.slice wa wn wc, .slice qa5 qn5 qc5] 29) none; have hZ := heap_alloc_new' w5 (.cells #[.slice wa wn wc, .slice qa5 qn5 qc5] 29); obtain ⟨V, eV⟩ : ∃ V, w5.alloc (.cells #[.slice wa wn wc, .slice qa5 qn5 qc5] 29) = V := ⟨_, rfl⟩; rw [eV] at hga hZ; have hgV := grown_trans hg5 hga; have hVs := hga.size; obtain ⟨z0, z1⟩ := two_cells hZ; have hBV := (hgV.block _ (lt_of_block hboxX) (by simp)).trans hboxX; obtain ⟨t0, t1⟩ := two_cells hBV; have tf0 : V.frozen? ⟨w.heap.size, 0, none⟩ = false := (by simp [World.frozen?, hBV]); have tf1 : V.frozen? ⟨w.heap.size, 1, none⟩ = false := (by simp [World.frozen?, hBV]); have hTV := (hgV.block _ (lt_of_block KX) (by simp)).trans KX; obtain ⟨y0, y1, y2⟩ := tag_cells hTV; have hRV := (hgV.block _ (lt_of_block hresX) (by simp)).trans hresX; have hX5 := hg5.size))
          have hs : V.grownBy ((V.setCell ⟨w.heap.size, 0, none⟩ (.slice wa wn wc)).setCell ⟨w.heap.size, 1, none⟩ (.slice qa5 qn5 qc5)) (some w.heap.size) := grown_trans (grown_set _ _ _ _) (grown_set _ _ _ _)
          refine ⟨⟨k + 1, off2, by omega, by go_num, rfl, ⟨⟨_, q + 1, _, by omega, HN.out, hoff3, (hr5.later hga).other hBV hs, ?_⟩, grown_new (grown_trans (grown_any (grown_trans G0 hgV) _) hs) (Nat.le_refl _), (hs.block _ (lt_of_block hRV) (by simp)).trans hRV⟩⟩, by simp [intOf]; omega⟩
          rw [heap_setCell_same (heap_setCell_same hBV _) _]; rfl
      · have hB' : 0 < (B k : Int) % 10 := by omega
        obtain ⟨u, eu⟩ : ∃ u : Nat, B k % 10 - 1 = u := ⟨_, rfl⟩
        have eu' : (B k : Int) % 10 - 1 = (u : Nat) := by omega
        have GX : wr.grownBy (wr.alloc (.cells #[.int .u64 s, .bool true, .int .i64 u] 57)) none := World.grownBy_alloc _ _ _
        have KX : (wr.alloc (.cells #[.int .u64 s, .bool true, .int .i64 u] 57)).heap[wr.heap.size]? = some (.cells #[.int .u64 s, .bool true, .int .i64 u] 57 (0, 0)) := heap_alloc_new' _ _
        have hrX := hrt.later GX
        have hboxX := (GX.block _ (lt_of_block hbox) (by simp)).trans hbox
        have hresX := (GX.block _ (lt_of_block hres) (by simp)).trans hres
        clear m0 m1
        obtain ⟨m0, m1⟩ := two_cells hboxX
        obtain ⟨x0, x1, x2⟩ := tag_cells KX
        by_cases hbr : 4480 < off + s + 48
        · have hbr' : 4480 < (off : Int) + (s : Int) + 48 := by omega
          have h16 := hL.top
          obtain ⟨s2, es2⟩ : ∃ s2, 4480 - off = s2 := ⟨_, rfl⟩
          have e7 : IntKind.u64.wrap (4480 - (off : Int)) = (s2 : Nat) := by rw [IntKind.wrap_u64]; omega
          have hmy2 : mayP s2 false (0 : Nat) := by unfold mayP; simp; omega
          have hin2 : inP (txSee (fmt48 4480) l 16) off s2 := by rw [h16]; unfold inP; omega
          have hend : Laid6 (layB (fmt48 4480) l off s2 (packN s2 false (0 : Nat))) (q + 1) := by
            have hs1 := stands48 (n := 4480) (off := off) (by omega) (by omega)
            have hs2 := stands48 (n := 4480) (off := off + s2 - 8) (by omega) (by omega)
            obtain ⟨g1, g2, g3⟩ := layB_see (l := l) (p := packN s2 false (0 : Nat)) hs1 hs2 (by omega)
            have : LayP (fmt48 4480) (layB (fmt48 4480) l off s2 (packN s2 false (0 : Nat))) (off + s2) (q + 1) := hL.next hmy2 (by omega) ((hL.ok.store off (unpack_pack hmy2).1).store (off + s2 - 8) (unpack_pack hmy2).1) g1 g2 (fun e => by cases e) (fun x hx => g3 x (by omega) (by omega))
            rw [show off + s2 = 4480 by omega] at this
            exact this.done (Nat.succ_pos _)
          have HEND := Lib.hid hend
          have hwr2 : Calls Tryz.prog 41 #[.agg #[.slice wa wn wc, .slice qa qn qc], .int .u64 off, .agg #[.int .u64 s2, .bool false, .int .i64 0]] (wr.alloc (.cells #[.int .u64 s, .bool true, .int .i64 u] 57)) _ := hwr (wr.alloc (.cells #[.int .u64 s, .bool true, .int .i64 u] 57)) _ l hrX (Nat.le_trans hbase (grown_trans hsince GX).size) hL.ok (by omega) off s2 false 0 (by omega) hmy2 hin2
          have G0 := grown_trans hsince GX
          clear hend hmy2 hin2 es2 h16 hL
          go_wp2_with (go_at_call 41; ((with_reducible refine hwr2.mono ?_); rintro e w5 ⟨pv5, rfl, hr5, hg5⟩; obtain ⟨qa5, qn5, qc5, hq5⟩ := pv_form hr5.puts; subst hq5; have hga := World.grownBy_alloc w5 (.cells #[.slice wa wn wc, .slice qa5 qn5 qc5] 29) none; have hZ := heap_alloc_new' w5 (.cells #[.slice wa wn wc, .slice qa5 qn5 qc5] 29); obtain ⟨z0, z1⟩ := two_cells hZ; have hR5 := ((grown_trans hg5 hga).block _ (lt_of_block hresX) (by simp)).trans hresX; obtain ⟨r0, r1⟩ := two_cells hR5; have fr0 : (w5.alloc (.cells #[.slice wa wn wc, .slice qa5 qn5 qc5] 29)).frozen? ⟨w.heap.size + 1, 0, none⟩ = false := (by simp [World.frozen?, hR5]); have fr1 : (w5.alloc (.cells #[.slice wa wn wc, .slice qa5 qn5 qc5] 29)).frozen? ⟨w.heap.size + 1, 1, none⟩ = false := (by simp [World.frozen?, hR5]); have HR5 := Lib.hid hR5; clear hR5))
          have hs : (w5.alloc (.cells #[.slice wa wn wc, .slice qa5 qn5 qc5] 29)).grownBy (((w5.alloc (.cells #[.slice wa wn wc, .slice qa5 qn5 qc5] 29)).setCell ⟨w.heap.size + 1, 0, none⟩ (.slice wa wn wc)).setCell ⟨w.heap.size + 1, 1, none⟩ (.slice qa5 qn5 qc5)) (some (w.heap.size + 1)) := grown_trans (grown_set _ _ _ _) (grown_set _ _ _ _)
          have hrE := (hr5.later hga).other HR5.out hs
          have hgE := grown_new (grown_trans (grown_any (grown_trans G0 (grown_trans hg5 hga)) _) hs) (by omega)
          have B4 : (((w5.alloc (.cells #[.slice wa wn wc, .slice qa5 qn5 qc5] 29)).setCell ⟨w.heap.size + 1, 0, none⟩ (.slice wa wn wc)).setCell ⟨w.heap.size + 1, 1, none⟩ (.slice qa5 qn5 qc5)).heap[w.heap.size + 1]? = some (.cells #[.slice wa wn wc, .slice qa5 qn5 qc5] 29 (0, 0)) := by
            rw [heap_setCell_same (heap_setCell_same HR5.out _) _]; rfl
          obtain ⟨k0, k1⟩ := two_cells B4
          refine bodyPost_ret (v := .agg #[.slice wa wn wc, .slice qa5 qn5 qc5]) (by simp [results, Tryz.results20, go_sem, k0, k1]) rfl ?_
          exact ⟨_, _, _, rfl, hrE, HEND.out, hgE⟩
        · have hbr' : ¬ 4480 < (off : Int) + (s : Int) + 48 := by omega
          obtain ⟨d, ed⟩ : ∃ d : Nat, s - 39 = d := ⟨_, rfl⟩
          obtain ⟨v, ev⟩ : ∃ v : Nat, C k % d = v := ⟨_, rfl⟩
          have hv : v + 40 ≤ s := by have := Nat.mod_lt (C k) (show 0 < d by omega); omega
          have h16 := hL.top
          have hmy2 : mayP s true (u : Nat) := by unfold mayP; simp; omega
          have hin2 : inP (txSee (fmt48 4480) l 16) off s := by rw [h16]; unfold inP; omega
          have hs1 := stands48 (n := 4480) (off := off) (by omega) (by omega)
          have hs2 := stands48 (n := 4480) (off := off + s - 8) (by omega) (by omega)
          obtain ⟨g1, g2, g3⟩ := layB_see (l := l) (p := packN s true (u : Nat)) hs1 hs2 (by omega)
          have hokB : TxOk (fmt48 4480) (layB (fmt48 4480) l off s (packN s true (u : Nat))) := (hL.ok.store off (unpack_pack hmy2).1).store (off + s - 8) (unpack_pack hmy2).1
          have hlenB : (layB (fmt48 4480) l off s (packN s true (u : Nat))).length ≤ 1000000 := by have := hokB.len; rw [fmt48_len] at this; omega
          have hwr2 : Calls Tryz.prog 41 #[.agg #[.slice wa wn wc, .slice qa qn qc], .int .u64 off, .agg #[.int .u64 s, .bool true, .int .i64 u]] (wr.alloc (.cells #[.int .u64 s, .bool true, .int .i64 u] 57)) _ := hwr (wr.alloc (.cells #[.int .u64 s, .bool true, .int .i64 u] 57)) _ l hrX (Nat.le_trans hbase (grown_trans hsince GX).size) hL.ok (by omega) off s true u (by omega) hmy2 hin2
          have hs3 := stands48 (n := 4480) (off := off + 8) (by omega) (by omega)
          have hokC : TxOk (fmt48 4480) (txStore (fmt48 4480) (layB (fmt48 4480) l off s (packN s true (u : Nat))) (off + 8) v) := hokB.store _ (by omega)
          have hnext : LayP (fmt48 4480) (txStore (fmt48 4480) (layB (fmt48 4480) l off s (packN s true (u : Nat))) (off + 8) v) (off + s) (q + 1) :=
            hL.next hmy2 (by omega) hokC (by rw [see_stored hs3, if_neg (by omega)]; exact g1) (by rw [see_stored hs3, if_neg (by omega)]; exact g2) (fun _ => by rw [see_stored hs3, if_pos rfl]; omega) (fun x hx => by rw [see_stored hs3, if_neg (by omega)]; exact g3 x (by omega) (by omega))
          have HN := Lib.hid hnext
          have G0 := grown_trans hsince GX
          have e9 : (off : Int) + (s : Int) = ((off + s : Nat) : Int) := by omega
          obtain ⟨off2, eoff2⟩ : ∃ x, off + s = x := ⟨_, rfl⟩
          rw [eoff2] at e9 HN
          have HLB := Lib.hid hlenB
          have HOFF := Lib.hid eoff2
          have hoff3 : off2 + 48 ≤ 4480 := by omega
          have hbr2 : ¬ 4480 < (off2 : Int) + 48 := by omega
          clear hlenB eoff2 hL hbr hbr'
          clear hnext hmy2 hin2 h16 g1 g2 g3 hs1 hs2 hokB
          have hltw := lt_of_block hbox
          have n1 : ¬ wr.heap.size = w.heap.size := by omega
          have n2 : ¬ w.heap.size = wr.heap.size := by omega
          obtain ⟨b8, eb8⟩ : ∃ b8, off + 8 = b8 := ⟨_, rfl⟩
          have e8 : IntKind.u64.wrap ((off : Int) + 8) = (b8 : Nat) := by rw [IntKind.wrap_u64]; omega
          have hb8 : b8 < 4480 := by omega
          rw [eb8] at HN
          clear eb8
          have e10 : IntKind.u64.wrap ((s : Int) - 39) = (d : Nat) := by rw [IntKind.wrap_u64]; omega
          have e11 : IntKind.u64.wrap (C k : Int) = (C k : Nat) := by rw [IntKind.wrap_u64]; omega
          have e12 : (C k : Int).tmod (d : Nat) = (v : Nat) := by rw [← ev]; rfl
          have e13 : ¬ d = 0 := by omega
          have e14 : ¬ ((d : Nat) : Int) = 0 := by omega
          clear ed ev
          go_wp2_with (go_at_call 41; ((with_reducible refine hwr2.mono ?_); rintro e w5 ⟨pv5, rfl, hr5, hg5⟩; obtain ⟨qa5, qn5, qc5, hq5⟩ := pv_form hr5.puts; subst hq5; have hga := World.grownBy_alloc w5 (.cells #[.slice wa wn wc, .slice qa5 qn5 qc5] 29) none; have hZ := heap_alloc_new' w5 (.cells #[.slice wa wn wc, .slice qa5 qn5 qc5] 29); obtain ⟨V, eV⟩ : ∃ V, w5.alloc (.cells #[.slice wa wn wc, .slice qa5 qn5 qc5] 29) = V := ⟨_, rfl⟩; rw [eV] at hga hZ; have hgV := grown_trans hg5 hga; have hVs := hga.size; obtain ⟨z0, z1⟩ := two_cells hZ; have hBV := (hgV.block _ (lt_of_block hboxX) (by simp)).trans hboxX; obtain ⟨t0, t1⟩ := two_cells hBV; have tf0 : V.frozen? ⟨w.heap.size, 0, none⟩ = false := (by simp [World.frozen?, hBV]); have tf1 : V.frozen? ⟨w.heap.size, 1, none⟩ = false := (by simp [World.frozen?, hBV]); have hTV := (hgV.block _ (lt_of_block KX) (by simp)).trans KX; obtain ⟨y0, y1, y2⟩ := tag_cells hTV; have hRV := (hgV.block _ (lt_of_block hresX) (by simp)).trans hresX; have hX5 := hg5.size; have c2V := (World.cell?_of_block (w := wr) (a := ⟨b, o + k * 3 + 2, none⟩) ((grown_trans GX hgV).block b hb (by simp))).trans c2))
          have hz5 : w.heap.size < w5.heap.size ∧ wr.heap.size < w5.heap.size := by have := GX.size; rw [World.size_alloc] at this; have h5 := hX5; rw [World.size_alloc] at h5; omega
          have n3 : ¬ w5.heap.size = w.heap.size := by omega
          have n4 : ¬ w.heap.size = w5.heap.size := by omega
          have n5 : ¬ w5.heap.size = wr.heap.size := by omega
          have n6 : ¬ wr.heap.size = w5.heap.size := by omega
          have hst2 := hst V.drew _ _ ((hr5.later hga).later (grown_drew (grown_refl _ _))) (Nat.le_trans hbase (grown_trans G0 hgV).size) HLB.out b8 v (by omega)
          go_still_tail 13, (by kernel_rfl)
          go_wp2_with (go_at_call 39; refine hst2.mono ?_; rintro e w6 ⟨pv6, rfl, hr6, hg6⟩; obtain ⟨qa6, qn6, qc6, hq6⟩ := pv_form hr6.puts; subst hq6; have hgd : V.grownBy w6 none := grown_trans (grown_drew (grown_refl _ _)) hg6; have hZ6 := (hgd.block _ (lt_of_block hZ) (by simp)).trans hZ; obtain ⟨z2, z3⟩ := two_cells hZ6; have zf0 : w6.frozen? ⟨w5.heap.size, 0, none⟩ = false := (by simp [World.frozen?, hZ6]); have zf1 : w6.frozen? ⟨w5.heap.size, 1, none⟩ = false := (by simp [World.frozen?, hZ6]); have hB6 := (hgd.block _ (lt_of_block hBV) (by simp)).trans hBV; obtain ⟨t2, t3⟩ := two_cells hB6; have tf2 : w6.frozen? ⟨w.heap.size, 0, none⟩ = false := (by simp [World.frozen?, hB6]); have tf3 : w6.frozen? ⟨w.heap.size, 1, none⟩ = false := (by simp [World.frozen?, hB6]); have hT6 := (hgd.block _ (lt_of_block hTV) (by simp)).trans hTV; obtain ⟨y3, y4, y5⟩ := tag_cells hT6; have hR6 := (hgd.block _ (lt_of_block hRV) (by simp)).trans hRV)
          have hs1 : w6.grownBy ((w6.setCell ⟨w5.heap.size, 0, none⟩ (.slice wa wn wc)).setCell ⟨w5.heap.size, 1, none⟩ (.slice qa6 qn6 qc6)) (some w5.heap.size) := grown_trans (grown_set _ _ _ _) (grown_set _ _ _ _)
          have hB7 := (hs1.block _ (lt_of_block hB6) (by simp; omega)).trans hB6
          have hR7 := (hs1.block _ (lt_of_block hR6) (by simp; omega)).trans hR6
          have hr7 := hr6.other hZ6 hs1
          obtain ⟨W7, eW7⟩ : ∃ W7, (w6.setCell ⟨w5.heap.size, 0, none⟩ (.slice wa wn wc)).setCell ⟨w5.heap.size, 1, none⟩ (.slice qa6 qn6 qc6) = W7 := ⟨_, rfl⟩
          rw [eW7] at hs1 hB7 hR7 hr7 ⊢
          have hs2 : W7.grownBy ((W7.setCell ⟨w.heap.size, 0, none⟩ (.slice wa wn wc)).setCell ⟨w.heap.size, 1, none⟩ (.slice qa6 qn6 qc6)) (some w.heap.size) := grown_trans (grown_set _ _ _ _) (grown_set _ _ _ _)
          refine ⟨⟨k + 1, off2, by omega, by go_num, rfl, ⟨⟨_, q + 1, _, by omega, HN.out, hoff3, hr7.other hB7 hs2, ?_⟩, grown_new (grown_trans (grown_any (grown_new (grown_trans (grown_any (grown_trans G0 (grown_trans hgV hgd)) _) hs1) (by omega)) _) hs2) (Nat.le_refl _), (hs2.block _ (lt_of_block hR7) (by simp)).trans hR7⟩⟩, by simp [intOf]; omega⟩
          rw [heap_setCell_same (heap_setCell_same hB7 _) _]; rfl
    · obtain rfl : k = n := by omega
      obtain ⟨X0, eX0⟩ : ∃ X0, wr = X0 := ⟨_, rfl⟩
      subst eX0
      have GX := grown_refl wr none
      have hrX := hrt
      have hresX := hres
      have h16 := hL.top
      obtain ⟨s2, es2⟩ : ∃ s2, 4480 - off = s2 := ⟨_, rfl⟩
      have e7 : IntKind.u64.wrap (4480 - (off : Int)) = (s2 : Nat) := by rw [IntKind.wrap_u64]; omega
      have hmy2 : mayP s2 false (0 : Nat) := by unfold mayP; simp; omega
      have hin2 : inP (txSee (fmt48 4480) l 16) off s2 := by rw [h16]; unfold inP; omega
      have hend : Laid6 (layB (fmt48 4480) l off s2 (packN s2 false (0 : Nat))) (q + 1) := by
        have hs1 := stands48 (n := 4480) (off := off) (by omega) (by omega)
        have hs2 := stands48 (n := 4480) (off := off + s2 - 8) (by omega) (by omega)
        obtain ⟨g1, g2, g3⟩ := layB_see (l := l) (p := packN s2 false (0 : Nat)) hs1 hs2 (by omega)
        have : LayP (fmt48 4480) (layB (fmt48 4480) l off s2 (packN s2 false (0 : Nat))) (off + s2) (q + 1) := hL.next hmy2 (by omega) ((hL.ok.store off (unpack_pack hmy2).1).store (off + s2 - 8) (unpack_pack hmy2).1) g1 g2 (fun e => by cases e) (fun x hx => g3 x (by omega) (by omega))
        rw [show off + s2 = 4480 by omega] at this
        exact this.done (Nat.succ_pos _)
      have HEND := Lib.hid hend
      have hwr2 : Calls Tryz.prog 41 #[.agg #[.slice wa wn wc, .slice qa qn qc], .int .u64 off, .agg #[.int .u64 s2, .bool false, .int .i64 0]] wr _ := hwr wr _ l hrX (Nat.le_trans hbase (grown_trans hsince GX).size) hL.ok (by omega) off s2 false 0 (by omega) hmy2 hin2
      have G0 := grown_trans hsince GX
      clear hend hmy2 hin2 es2 h16 hL
      go_wp2_with (go_at_call 41; ((with_reducible refine hwr2.mono ?_); rintro e w5 ⟨pv5, rfl, hr5, hg5⟩; obtain ⟨qa5, qn5, qc5, hq5⟩ := pv_form hr5.puts; subst hq5; have hga := World.grownBy_alloc w5 (.cells #[.slice wa wn wc, .slice qa5 qn5 qc5] 29) none; have hZ := heap_alloc_new' w5 (.cells #[.slice wa wn wc, .slice qa5 qn5 qc5] 29); obtain ⟨z0, z1⟩ := two_cells hZ; have hR5 := ((grown_trans hg5 hga).block _ (lt_of_block hresX) (by simp)).trans hresX; obtain ⟨r0, r1⟩ := two_cells hR5; have fr0 : (w5.alloc (.cells #[.slice wa wn wc, .slice qa5 qn5 qc5] 29)).frozen? ⟨w.heap.size + 1, 0, none⟩ = false := (by simp [World.frozen?, hR5]); have fr1 : (w5.alloc (.cells #[.slice wa wn wc, .slice qa5 qn5 qc5] 29)).frozen? ⟨w.heap.size + 1, 1, none⟩ = false := (by simp [World.frozen?, hR5]); have HR5 := Lib.hid hR5; clear hR5))
      have hs : (w5.alloc (.cells #[.slice wa wn wc, .slice qa5 qn5 qc5] 29)).grownBy (((w5.alloc (.cells #[.slice wa wn wc, .slice qa5 qn5 qc5] 29)).setCell ⟨w.heap.size + 1, 0, none⟩ (.slice wa wn wc)).setCell ⟨w.heap.size + 1, 1, none⟩ (.slice qa5 qn5 qc5)) (some (w.heap.size + 1)) := grown_trans (grown_set _ _ _ _) (grown_set _ _ _ _)
      have hrE := (hr5.later hga).other HR5.out hs
      have hgE := grown_new (grown_trans (grown_any (grown_trans G0 (grown_trans hg5 hga)) _) hs) (by omega)
      have B4 : (((w5.alloc (.cells #[.slice wa wn wc, .slice qa5 qn5 qc5] 29)).setCell ⟨w.heap.size + 1, 0, none⟩ (.slice wa wn wc)).setCell ⟨w.heap.size + 1, 1, none⟩ (.slice qa5 qn5 qc5)).heap[w.heap.size + 1]? = some (.cells #[.slice wa wn wc, .slice qa5 qn5 qc5] 29 (0, 0)) := by
        rw [heap_setCell_same (heap_setCell_same HR5.out _) _]; rfl
      obtain ⟨k0, k1⟩ := two_cells B4
      refine bodyPost_ret (v := .agg #[.slice wa wn wc, .slice qa5 qn5 qc5]) (by simp [results, Tryz.results20, go_sem, k0, k1]) rfl ?_
      exact ⟨_, _, _, rfl, hrE, HEND.out, hgE⟩
end Go.Proofs.YthhboidjibdahaaGreat

/-
  Layer 6's plain answers: the contracts of check and Walk.
  Conditions: the plain Tx stands in memory; there are 131072 words at most.
-/
namespace Go.Proofs.YthhboidjibdahaaGreat
open Go.RowKit
set_option linter.unusedVariables false
set_option linter.unusedSimpArgs false

theorem info_rblk : (Tryz.prog.info? 59).map (fun i => (i.zero, i.size, i.bytes)) = some (some (.agg #[.int .u64 0, .int .u64 0, .bool false, .int .i64 0, .int .u64 0]), 5, 40) := by kernel_rfl
/-- 'append(l, b)': a block more. -/
theorem wpList_append_blk {w2 : World} {base k : Nat} {l : List Blk} {v : Value} (hkl : l.length = k) (hown : OwnB w2 base 59 v l) (hn : l.length ≤ 1000000) (hbase : base ≤ w2.heap.size) (b : Blk)
    {ops : Array Oper} {rest : List Oper} {o : Oper} {a : Act} {Q : Exit → Act → World → Prop} (hgd : o.guard = none) (s x : Operand)
    (ho : o.op = .call { callee := .builtin .append, args := #[s, x], argTypes := #[53, 53] })
    (hs : a.eval s = v) {m : Nat} (hx : a.eval x = .slice (some ⟨m, 0, none⟩) 1 1) (hm : m = w2.heap.size)
    (h : ∀ g cp w', OwnB w' base 59 (.slice (some ⟨g, 0, none⟩) (k + 1) cp) (l ++ [b]) → w2.grownBy w' v.ownBlock → (v.ownBlock = some g ∨ g = w2.heap.size + 1) → wpList Tryz.prog ops Q rest (a.put o.dst (.slice (some ⟨g, 0, none⟩) (k + 1) cp)) w') :
    wpList Tryz.prog ops Q (o :: rest) a (w2.alloc (.cells #[.int .u64 (b.off : Nat), .int .u64 (b.s : Nat), .bool b.u, .int .i64 b.o, .int .u64 (b.n : Nat)] 59)) := by
  subst hkl
  subst hm
  obtain ⟨i0, hi, hz0, hz1, hz2⟩ := info_parts info_rblk
  refine wpList_append_own_at _ hgd s x 53 ho base 59 i0 (.agg #[.int .u64 0, .int .u64 0, .bool false, .int .i64 0, .int .u64 0]) 5 40 Tryz.underlying53 hi hz0 hz1 hz2 rfl (by decide) v l.length (cellsB l) hs (World.ownsRow.alloc hown _) ⟨w2.heap.size, 0, none⟩ 1 1 b.row hx rfl (cells_five_new _ _ _ _ _ _ _) (by simp [Value.oneCell', Blk.row]) (by unfold maxLen; omega) (by omega) (by rw [World.size_alloc]; omega) fun v' w' h1 h2 _ h4 => ?_
  obtain ⟨g, cp, rfl⟩ := ownsRow_succ h1
  refine h g cp w' ?_ (grown_trans (World.grownBy_alloc _ _ _) h2) ?_
  · unfold OwnB
    rw [cellsB_snoc, List.length_append]
    exact h1
  · rw [World.size_alloc] at h4
    rcases h4 with h4 | h4
    · exact .inl h4.symm
    · right; injection h4
section
variable {w : World} {base : Nat} {wv pv : Value} {ws : List Nat} {l : List (Nat × Nat)}
theorem chk6_apply (hok : TxOk ws l) : chkN (txApply ws l) [] = chkN ws l := by
  have e : chkP (txApply ws l) [] ↔ chkP ws l := by
    unfold chkP
    rw [see_nil, see_nil, see_nil, see_nil, apply_get hok, apply_get hok, apply_get hok, apply_get hok, txApply_len]
  unfold chkN
  by_cases hc : chkP ws l
  · rw [if_pos hc, if_pos (e.2 hc)]
  · rw [if_neg hc, if_neg (fun hh => hc (e.1 hh))]
theorem txApply_lt {ws : List Nat} {l : List (Nat × Nat)} (hw : ∀ x ∈ ws, x < 18446744073709551616) (hl : ∀ p ∈ l, p.2 < 18446744073709551616) : ∀ x ∈ txApply ws l, x < 18446744073709551616 := by
  induction l generalizing ws with
  | nil => exact hw
  | cons p r ih =>
    show ∀ x ∈ txApply (put ws p.1 p.2) r, x < 18446744073709551616
    exact ih (put_lt hw (hl p List.mem_cons_self)) (fun q hq => hl q (List.mem_cons_of_mem _ hq))
theorem rcheck6_any (h : RTx w base wv pv ws l) (hbase : base ≤ w.heap.size) (hm : ws.length ≤ 131072) (hok : TxOk ws l) (hlt : ∀ x ∈ ws, x < 18446744073709551616) :
    Calls Tryz.prog 43 #[.agg #[wv, pv]] w fun e w' => e = .returned (.int .i64 (chkN ws l : Nat)) ∧ w.grownBy w' none := by
  obtain ⟨wa, wn, wc, hwv⟩ := wv_form h.words
  subst hwv
  obtain ⟨pa, pn, pc, hpv⟩ := pv_form h.puts
  subst hpv
  have hg0 : w.grownBy (w.alloc (.cells #[.slice wa wn wc, .slice pa pn pc] 29)) none := World.grownBy_alloc _ _ _
  have hap := rtxapply_any (h.later hg0) (Nat.le_trans hbase hg0.size) hm hok
  have hck := fun (w1 : World) (v : Value) (ho : OwnW w1 base v (txApply ws l)) => rcheck_any ho (by rw [txApply_len]; exact hm) (txApply_lt hlt hok.word)
  rw [chk6_apply hok] at hck
  go_enter Tryz.func43, Tryz.ntmps43
  go_wp2_with (first | (go_at_call 72; refine hap.mono ?_; rintro e w1 ⟨v, rfl, ho, hg1⟩) | (go_at_call 71; refine (hck _ _ ho).mono ?_; rintro e w2 ⟨rfl, hg2⟩))
  go_ret
  exact ⟨rfl, grown_trans hg0 (grown_trans hg1 hg2)⟩
theorem walks_bad {f : Nat → Nat} {N k : Nat} {ok : Bool} (hw : Walks f N ok) (hk : k ≤ N) (h : offs f k < f 16) (hb : ¬ bkP f (offs f k)) : ok = false := by
  rcases Nat.lt_or_ge k N with h3 | h3
  · exact absurd (hw.lt k h3).2 hb
  · obtain rfl : k = N := by omega
    cases ok
    · rfl
    · have h4 := hw.fin
      rw [if_pos rfl] at h4
      omega
theorem walks_end {f : Nat → Nat} {N k : Nat} {ok : Bool} (hw : Walks f N ok) (hk : k ≤ N) (h : ¬ offs f k < f 16) : k = N ∧ ok = true := by
  rcases Nat.lt_or_ge k N with h3 | h3
  · exact absurd (hw.lt k h3).1 h
  · obtain rfl : k = N := by omega
    cases ok
    · have h4 := hw.fin
      rw [if_neg (by simp)] at h4
      exact absurd h4.1 h
    · exact ⟨rfl, rfl⟩
/-- What holds at the head of Walk's loop: k blocks are told. -/
structure RwRel (w : World) (wv pv : Value) (f : Nat → Nat) (k : Nat) (v : Value) (wr : World) : Prop where
  since : w.grownBy wr none
  box : wr.heap[w.heap.size]? = some (.cells #[wv, pv] 29 (0, 0))
  row : OwnB wr (w.heap.size + 1) 59 v (blks f k)
theorem RwRel.next {w wr w4 w6 : World} {wv pv : Value} {f : Nat → Nat} {k : Nat} {v v' : Value} {b : Blk} (hs : w.grownBy wr none) (hb : wr.heap[w.heap.size]? = some (.cells #[wv, pv] 29 (0, 0))) (hbs : blks f (k + 1) = blks f k ++ [b])
    (hg4 : wr.grownBy w4 none) (hg6 : w4.grownBy w6 v.ownBlock) (ho : ∀ i, v.ownBlock = some i → w.heap.size + 1 ≤ i ∧ i < wr.heap.size) (hr : OwnB w6 (w.heap.size + 1) 59 v' (blks f k ++ [b])) : RwRel w wv pv f (k + 1) v' w6 := by
  refine ⟨grown_step (grown_trans hs hg4) hg6 (fun i hi => .inl (by have := (ho i hi).1; omega)), ?_, by rw [hbs]; exact hr⟩
  have h4 := (hg4.block _ (lt_of_block hb) (by simp)).trans hb
  exact (hg6.block _ (lt_of_block h4) (fun e => by have := (ho _ e.symm).1; omega)).trans h4
set_option maxHeartbeats 8000000 in
theorem rwalk_yes (h : RTx w base wv pv ws l) (hbase : base ≤ w.heap.size) (hm : ws.length ≤ 131072) (hl : l.length ≤ 1000000) (hok : TxOk ws l) (hlt : ∀ x ∈ ws, x < 18446744073709551616) {N : Nat} {ok : Bool} (hc : chkN ws l = 0) (hw : Walks (txSee ws l) N ok) (hN : N ≤ 1000000) :
    Calls Tryz.prog 22 #[.agg #[wv, pv]] w fun e w' => ∃ v, e = .returned (.tuple #[v, .int .i64 (wkE ok : Nat)]) ∧ OwnB w' w.heap.size 59 v (wkL (txSee ws l) N ok) ∧ w.grownBy w' none := by
  obtain ⟨wa, wn, wc, hwv⟩ := wv_form h.words
  subst hwv
  obtain ⟨pa, pn, pc, hpv⟩ := pv_form h.puts
  subst hpv
  have hg0 : w.grownBy (w.alloc (.cells #[.slice wa wn wc, .slice pa pn pc] 29)) none := World.grownBy_alloc _ _ _
  have hb0 : (w.alloc (.cells #[.slice wa wn wc, .slice pa pn pc] 29)).heap[w.heap.size]? = some (.cells #[.slice wa wn wc, .slice pa pn pc] 29 (0, 0)) := heap_alloc_new' _ _
  have hck := rcheck6_any (h.later hg0) (Nat.le_trans hbase hg0.size) hm hok hlt
  rw [hc] at hck
  simp only [show ((0 : Nat) : Int) = 0 from rfl] at hck
  have hltf := txSee_lt hlt hok
  have hl16 : ∀ (w1 : World) (hg : w.grownBy w1 none), Calls Tryz.prog 40 #[.agg #[.slice wa wn wc, .slice pa pn pc], .int .u64 16] w1 _ := fun w1 hg => rtxload_any (h.later hg) hm hl 16 (by decide)
  have hrd := fun (w1 : World) (hg : w.grownBy w1 none) (off : Nat) (ho : off < 18446744073709551616) => rtread_any (h.later hg) hm hl hltf off ho
  have hld := fun (w1 : World) (hg : w.grownBy w1 none) (off : Nat) (ho : off < 18446744073709551616) => rtxload_any (h.later hg) hm hl off ho
  obtain ⟨f, ef⟩ : ∃ f, txSee ws l = f := ⟨_, rfl⟩
  rw [ef] at hw hltf hrd hld hl16 ⊢
  have hz := hltf 16
  obtain ⟨z, ez⟩ : ∃ z, f 16 = z := ⟨_, rfl⟩
  simp only [ez] at hz hl16
  clear h
  go_enter Tryz.func22, Tryz.ntmps22
  go_wp2_with (go_at_call 43; (with_reducible refine hck.mono ?_); rintro e w1 ⟨rfl, hg1⟩)
  have R0 : RwRel w (.slice wa wn wc) (.slice pa pn pc) f 0 (.slice none 0 0) w1 := ⟨grown_trans hg0 hg1, (hg1.block _ (lt_of_block hb0) (by simp)).trans hb0, World.ownsRow_nil _ _ _ _⟩
  clear hb0 hck
  go_loopw [4, 5] (fun v i wr => ∃ k : Nat, k ≤ N ∧ i = .int .u64 (offs f k : Nat) ∧ RwRel w (.slice wa wn wc) (.slice pa pn pc) f k v wr) (fun _ i _ => z - (intOf i).toNat)
  case atStart => exact ⟨0, Nat.zero_le _, rfl, R0⟩
  case round =>
    obtain ⟨k, hk, rfl, Rk⟩ := hrel
    have hrow0 := Rk.row
    have G0 := Rk.since
    have HB := Lib.hid Rk.box
    obtain ⟨va, vc, rfl, _⟩ := hrow0.at_
    rw [blks_len] at hrow0 Rk ⊢
    obtain ⟨m0, m1⟩ := two_cells HB.out
    have hsz1 : w.heap.size + 1 ≤ wr.heap.size := by have := lt_of_block HB.out; omega
    have hown : ∀ i, (Value.slice va k vc).ownBlock = some i → w.heap.size + 1 ≤ i ∧ i < wr.heap.size := fun i hi => by
      obtain ⟨h1, cur, h2⟩ := row_block hrow0 hi
      exact ⟨h1, lt_of_block h2⟩
    have HO := Lib.hid hown
    clear hown
    have hlen' : (blks f k).length ≤ 1000000 := by rw [blks_len]; omega
    by_cases hk2 : offs f k < z
    · have ho : offs f k < 18446744073709551616 := by omega
      have hread := fun (w1 : World) (hg : w.grownBy w1 none) => hrd w1 hg (offs f k) ho
      by_cases hr : rdP f (offs f k)
      · obtain ⟨r1, r2, r3, r4⟩ := rd_yes hr
        rw [r1, r2, r3, r4] at hread
        simp only [show ((0 : Nat) : Int) = 0 from rfl] at hread
        have hb48 := mayW_size hr.1
        have hin := hr.2.1
        have hgood : bkP f (offs f k) → k < N ∧ offs f k + usz (f (offs f k)) = offs f (k + 1) ∧ offs f (k + 1) ≤ z ∧ blks f (k + 1) = blks f k ++ [bkAt f (offs f k)] := fun hb => by
          have h1 := bk_ge hb
          rw [ez] at h1
          have h2 : offs f (k + 1) = offs f k + usz (f (offs f k)) := rfl
          refine ⟨?_, rfl, by omega, blks_succ _ _⟩
          rcases Nat.lt_or_ge k N with h3 | h3
          · exact h3
          · have h4 := hw.fin
            obtain rfl : k = N := by omega
            cases ok
            · rw [if_neg (by simp)] at h4; exact absurd hb h4.2
            · rw [if_pos rfl, ez] at h4; omega
        obtain ⟨off2, eoff2⟩ : ∃ x, offs f (k + 1) = x := ⟨_, rfl⟩
        by_cases hu : uus (f (offs f k)) = true
        · obtain ⟨b8, eb8⟩ : ∃ x, offs f k + 8 = x := ⟨_, rfl⟩
          have hb64 : b8 < 18446744073709551616 := by unfold inP at hin; omega
          have hload := fun (w1 : World) (hg : w.grownBy w1 none) => hld w1 hg b8 hb64
          obtain ⟨n, en⟩ : ∃ x, f b8 = x := ⟨_, rfl⟩
          have hn64 := hltf b8
          rw [en] at hload hn64
          have hbk2 : bkAt f (offs f k) = ⟨offs f k, usz (f (offs f k)), true, uow (f (offs f k)), n⟩ := by
            unfold bkAt bkL
            rw [if_pos hu, eb8, en, hu]
          have hfitP : bkP f (offs f k) ↔ n + 40 ≤ usz (f (offs f k)) := by
            unfold bkP
            rw [eb8, en]
            exact ⟨fun h => h.2 hu, fun h => ⟨hr, fun _ => h⟩⟩
          rw [hu] at hread
          by_cases hfit : n + 40 ≤ usz (f (offs f k))
          · obtain ⟨hkN, hn1, hn3, hbs⟩ := hgood (hfitP.2 hfit)
            rw [hbk2] at hbs
            obtain ⟨off, eoff⟩ : ∃ x, offs f k = x := ⟨_, rfl⟩
            obtain ⟨s, es⟩ : ∃ x, usz (f (offs f k)) = x := ⟨_, rfl⟩
            obtain ⟨o, eo⟩ : ∃ x, uow (f (offs f k)) = x := ⟨_, rfl⟩
            rw [eoff] at es eo
            rw [eoff2] at hn1 hn3
            rw [eoff, es] at hn1 hb48 hfit
            rw [eoff, es, eo] at hread hbs
            rw [eoff] at hk2 ho eb8 ⊢
            have e1 : IntKind.u64.wrap ((off : Int) + (s : Int)) = (off2 : Nat) := by rw [IntKind.wrap_u64]; omega
            have e8 : IntKind.u64.wrap ((off : Int) + 8) = (b8 : Nat) := by rw [IntKind.wrap_u64]; omega
            have hneed := fun w => rneed_fits n (by omega) w
            have hle : ¬ (s : Int) < (needOf n : Nat) := by have := (need_leq (n := n) hb48.2.2.1 hb48.1).2 hfit; omega
            obtain ⟨m, em⟩ : ∃ m, needOf n = m := ⟨_, rfl⟩
            rw [em] at hle
            simp only [em] at hneed
            clear hgood hfitP hbk2 hu hr r1 r2 r3 r4 hin hfit em en eb8
            go_wp2_with (first | (go_at_call 40; ((with_reducible refine (hl16 _ G0).mono ?_); rintro e w2 ⟨rfl, hg2⟩; have B2 := Lib.hid ((hg2.block _ (lt_of_block HB.out) (by simp)).trans HB.out); obtain ⟨m0, m1⟩ := two_cells B2.out)) | (go_at_call 44; ((with_reducible refine (hread _ (grown_trans G0 hg2)).mono ?_); rintro e w3 ⟨rfl, hg3⟩; have hga := World.grownBy_alloc w3 (.cells #[.int .u64 s, .bool true, .int .i64 o] 57) none; have G3 := grown_trans hg2 (grown_trans hg3 hga); obtain ⟨x0, x1, x2⟩ := tag_cells (tag_first (grown_refl (w3.alloc (.cells #[.int .u64 s, .bool true, .int .i64 o] 57)) none)); have hgb := World.grownBy_alloc (w3.alloc (.cells #[.int .u64 s, .bool true, .int .i64 o] 57)) (.cells #[.int .u64 off, .int .u64 s, .bool true, .int .i64 o, .int .u64 0] 59) none; have G4 := grown_trans G3 hgb; have T4 := Lib.hid (tag_first hgb); obtain ⟨y0, y1, y2⟩ := tag_cells T4.out; have K4 := Lib.hid (five_first (grown_refl ((w3.alloc (.cells #[.int .u64 s, .bool true, .int .i64 o] 57)).alloc (.cells #[.int .u64 off, .int .u64 s, .bool true, .int .i64 o, .int .u64 0] 59)) none)); have hrow4 := hrow0.later G4; have B4 := Lib.hid ((G4.block _ (lt_of_block HB.out) (by simp)).trans HB.out); obtain ⟨m4, m5⟩ := two_cells B4.out)) | (go_at_call 40; ((with_reducible refine (hload _ (grown_trans G0 G4)).mono ?_); rintro e w5 ⟨rfl, hg5⟩; have T5 := Lib.hid ((hg5.block _ (lt_of_block T4.out) (by simp)).trans T4.out); have K5 := Lib.hid ((hg5.block _ (lt_of_block K4.out) (by simp)).trans K4.out); have e9 : ((w3.alloc (.cells #[.int .u64 s, .bool true, .int .i64 o] 57)).heap.size) = w3.heap.size + 1 := World.size_alloc _ _; have K5' := K5.out; rw [e9] at K5'; obtain ⟨d0, d1, d2, d3, d4⟩ := five_cells K5'; obtain ⟨f0, f1, f2, f3, f4⟩ := five_frozen K5'; have K6 := Lib.hid K5'; clear K5' e9)) | (go_at_call 45; ((with_reducible refine (hneed _).mono ?_); rintro e w7 ⟨rfl, hw7⟩; have hs5 := hg5.size; have hs4 := G4.size; have G7 : wr.grownBy w7 none := (by rw [← hw7]; exact grown_new (grown_trans (grown_any (grown_trans G4 hg5) _) (grown_set _ _ _ _)) (by have := (grown_trans hg2 hg3).size; omega)); have T7 := Lib.hid (show w7.heap[w3.heap.size]? = some (.cells #[.int .u64 s, .bool true, .int .i64 o] 57 (0, 0)) from (by rw [← hw7]; exact ((grown_set _ _ _ _).block _ (lt_of_block T5.out) (by simp)).trans T5.out)); have K7 := Lib.hid (show w7.heap[w3.heap.size + 1]? = some (.cells #[.int .u64 off, .int .u64 s, .bool true, .int .i64 o, .int .u64 n] 59 (0, 0)) from (by rw [← hw7, heap_setCell_same K6.out]; rfl)); obtain ⟨y0, y1, y2⟩ := tag_cells T7.out; obtain ⟨d0, d1, d2, d3, d4⟩ := five_cells K7.out; have hrow7 := hrow0.later G7; clear hw7)) | (at_builtin; go_must (refine wpList_append_blk (blks_len _ _) hrow7 hlen' (Nat.le_trans hsz1 G7.size) ⟨off, s, true, o, n⟩ rfl _ _ rfl rfl rfl (by simp) ?_); intro g cp w8 hrow8 hg8 hloc; have T8 := Lib.hid ((hg8.block _ (lt_of_block T7.out) (fun e => by have h1 := (HO.out _ e.symm).2; have h2 := (grown_trans hg2 hg3).size; omega)).trans T7.out); obtain ⟨z0, z1, z2⟩ := tag_cells T8.out))
            go_roundw
            case rel =>
              refine ⟨k + 1, hkN, by rw [eoff2], ?_⟩
              exact RwRel.next G0 HB.out hbs G7 hg8 HO.out hrow8
            case measure => simp [intOf]; omega
          · have hok2 := walks_bad hw hk (by rw [ez]; exact hk2) (fun h => hfit (hfitP.1 h))
            subst hok2
            obtain ⟨off, eoff⟩ : ∃ x, offs f k = x := ⟨_, rfl⟩
            obtain ⟨s, es⟩ : ∃ x, usz (f (offs f k)) = x := ⟨_, rfl⟩
            obtain ⟨o, eo⟩ : ∃ x, uow (f (offs f k)) = x := ⟨_, rfl⟩
            rw [eoff] at es eo
            rw [eoff, es] at hb48 hfit
            rw [eoff, es, eo] at hread
            rw [eoff] at hk2 ho eb8 ⊢
            have e8 : IntKind.u64.wrap ((off : Int) + 8) = (b8 : Nat) := by rw [IntKind.wrap_u64]; omega
            by_cases hbig : n + 55 < 18446744073709551616
            · have hneed := fun w => rneed_fits n hbig w
              have hle : (s : Int) < (needOf n : Nat) := by have := mt (need_leq (n := n) hb48.2.2.1 hb48.1).1 hfit; omega
              obtain ⟨m, em⟩ : ∃ m, needOf n = m := ⟨_, rfl⟩
              rw [em] at hle
              simp only [em] at hneed
              clear hgood hfitP hbk2 hu hr r1 r2 r3 r4 hin hfit em en eb8
              go_wp2_with (first | (go_at_call 40; ((with_reducible refine (hl16 _ G0).mono ?_); rintro e w2 ⟨rfl, hg2⟩; have B2 := Lib.hid ((hg2.block _ (lt_of_block HB.out) (by simp)).trans HB.out); obtain ⟨m0, m1⟩ := two_cells B2.out)) | (go_at_call 44; ((with_reducible refine (hread _ (grown_trans G0 hg2)).mono ?_); rintro e w3 ⟨rfl, hg3⟩; have hga := World.grownBy_alloc w3 (.cells #[.int .u64 s, .bool true, .int .i64 o] 57) none; have G3 := grown_trans hg2 (grown_trans hg3 hga); obtain ⟨x0, x1, x2⟩ := tag_cells (tag_first (grown_refl (w3.alloc (.cells #[.int .u64 s, .bool true, .int .i64 o] 57)) none)); have hgb := World.grownBy_alloc (w3.alloc (.cells #[.int .u64 s, .bool true, .int .i64 o] 57)) (.cells #[.int .u64 off, .int .u64 s, .bool true, .int .i64 o, .int .u64 0] 59) none; have G4 := grown_trans G3 hgb; have T4 := Lib.hid (tag_first hgb); obtain ⟨y0, y1, y2⟩ := tag_cells T4.out; have K4 := Lib.hid (five_first (grown_refl ((w3.alloc (.cells #[.int .u64 s, .bool true, .int .i64 o] 57)).alloc (.cells #[.int .u64 off, .int .u64 s, .bool true, .int .i64 o, .int .u64 0] 59)) none)); have hrow4 := hrow0.later G4; have B4 := Lib.hid ((G4.block _ (lt_of_block HB.out) (by simp)).trans HB.out); obtain ⟨m4, m5⟩ := two_cells B4.out)) | (go_at_call 40; ((with_reducible refine (hload _ (grown_trans G0 G4)).mono ?_); rintro e w5 ⟨rfl, hg5⟩; have T5 := Lib.hid ((hg5.block _ (lt_of_block T4.out) (by simp)).trans T4.out); have K5 := Lib.hid ((hg5.block _ (lt_of_block K4.out) (by simp)).trans K4.out); have e9 : ((w3.alloc (.cells #[.int .u64 s, .bool true, .int .i64 o] 57)).heap.size) = w3.heap.size + 1 := World.size_alloc _ _; have K5' := K5.out; rw [e9] at K5'; obtain ⟨d0, d1, d2, d3, d4⟩ := five_cells K5'; obtain ⟨f0, f1, f2, f3, f4⟩ := five_frozen K5'; have K6 := Lib.hid K5'; clear K5' e9)) | (go_at_call 45; ((with_reducible refine (hneed _).mono ?_); rintro e w7 ⟨rfl, hw7⟩; have hs5 := hg5.size; have hs4 := G4.size; have G7 : wr.grownBy w7 none := (by rw [← hw7]; exact grown_new (grown_trans (grown_any (grown_trans G4 hg5) _) (grown_set _ _ _ _)) (by have := (grown_trans hg2 hg3).size; omega)); have T7 := Lib.hid (show w7.heap[w3.heap.size]? = some (.cells #[.int .u64 s, .bool true, .int .i64 o] 57 (0, 0)) from (by rw [← hw7]; exact ((grown_set _ _ _ _).block _ (lt_of_block T5.out) (by simp)).trans T5.out)); have K7 := Lib.hid (show w7.heap[w3.heap.size + 1]? = some (.cells #[.int .u64 off, .int .u64 s, .bool true, .int .i64 o, .int .u64 n] 59 (0, 0)) from (by rw [← hw7, heap_setCell_same K6.out]; rfl)); obtain ⟨y0, y1, y2⟩ := tag_cells T7.out; obtain ⟨d0, d1, d2, d3, d4⟩ := five_cells K7.out; have hrow7 := hrow0.later G7; clear hw7)))
              go_ret2
              exact ⟨_, rfl, World.ownsRow_nil _ _ _ _, grown_trans G0 G7⟩
            · have hneed := fun w => rneed_high n hn64 (by omega) w
              clear hgood hfitP hbk2 hu hr r1 r2 r3 r4 hin hfit en eb8 hbig
              go_wp2_with (first | (go_at_call 40; ((with_reducible refine (hl16 _ G0).mono ?_); rintro e w2 ⟨rfl, hg2⟩; have B2 := Lib.hid ((hg2.block _ (lt_of_block HB.out) (by simp)).trans HB.out); obtain ⟨m0, m1⟩ := two_cells B2.out)) | (go_at_call 44; ((with_reducible refine (hread _ (grown_trans G0 hg2)).mono ?_); rintro e w3 ⟨rfl, hg3⟩; have hga := World.grownBy_alloc w3 (.cells #[.int .u64 s, .bool true, .int .i64 o] 57) none; have G3 := grown_trans hg2 (grown_trans hg3 hga); obtain ⟨x0, x1, x2⟩ := tag_cells (tag_first (grown_refl (w3.alloc (.cells #[.int .u64 s, .bool true, .int .i64 o] 57)) none)); have hgb := World.grownBy_alloc (w3.alloc (.cells #[.int .u64 s, .bool true, .int .i64 o] 57)) (.cells #[.int .u64 off, .int .u64 s, .bool true, .int .i64 o, .int .u64 0] 59) none; have G4 := grown_trans G3 hgb; have T4 := Lib.hid (tag_first hgb); obtain ⟨y0, y1, y2⟩ := tag_cells T4.out; have K4 := Lib.hid (five_first (grown_refl ((w3.alloc (.cells #[.int .u64 s, .bool true, .int .i64 o] 57)).alloc (.cells #[.int .u64 off, .int .u64 s, .bool true, .int .i64 o, .int .u64 0] 59)) none)); have hrow4 := hrow0.later G4; have B4 := Lib.hid ((G4.block _ (lt_of_block HB.out) (by simp)).trans HB.out); obtain ⟨m4, m5⟩ := two_cells B4.out)) | (go_at_call 40; ((with_reducible refine (hload _ (grown_trans G0 G4)).mono ?_); rintro e w5 ⟨rfl, hg5⟩; have T5 := Lib.hid ((hg5.block _ (lt_of_block T4.out) (by simp)).trans T4.out); have K5 := Lib.hid ((hg5.block _ (lt_of_block K4.out) (by simp)).trans K4.out); have e9 : ((w3.alloc (.cells #[.int .u64 s, .bool true, .int .i64 o] 57)).heap.size) = w3.heap.size + 1 := World.size_alloc _ _; have K5' := K5.out; rw [e9] at K5'; obtain ⟨d0, d1, d2, d3, d4⟩ := five_cells K5'; obtain ⟨f0, f1, f2, f3, f4⟩ := five_frozen K5'; have K6 := Lib.hid K5'; clear K5' e9)) | (go_at_call 45; ((with_reducible refine (hneed _).mono ?_); rintro e w7 ⟨rfl, hw7⟩; have hs5 := hg5.size; have hs4 := G4.size; have G7 : wr.grownBy w7 none := (by rw [← hw7]; exact grown_new (grown_trans (grown_any (grown_trans G4 hg5) _) (grown_set _ _ _ _)) (by have := (grown_trans hg2 hg3).size; omega)); have T7 := Lib.hid (show w7.heap[w3.heap.size]? = some (.cells #[.int .u64 s, .bool true, .int .i64 o] 57 (0, 0)) from (by rw [← hw7]; exact ((grown_set _ _ _ _).block _ (lt_of_block T5.out) (by simp)).trans T5.out)); have K7 := Lib.hid (show w7.heap[w3.heap.size + 1]? = some (.cells #[.int .u64 off, .int .u64 s, .bool true, .int .i64 o, .int .u64 n] 59 (0, 0)) from (by rw [← hw7, heap_setCell_same K6.out]; rfl)); obtain ⟨y0, y1, y2⟩ := tag_cells T7.out; obtain ⟨d0, d1, d2, d3, d4⟩ := five_cells K7.out; have hrow7 := hrow0.later G7; clear hw7)))
              go_ret2
              exact ⟨_, rfl, World.ownsRow_nil _ _ _ _, grown_trans G0 G7⟩
        · have hb : bkP f (offs f k) := ⟨hr, fun h => absurd h hu⟩
          obtain ⟨hkN, hn1, hn3, hbs⟩ := hgood hb
          have hbk : bkAt f (offs f k) = ⟨offs f k, usz (f (offs f k)), false, uow (f (offs f k)), 0⟩ := by
            unfold bkAt bkL
            rw [if_neg hu]
            simp only [Bool.not_eq_true] at hu
            rw [hu]
          rw [hbk] at hbs
          simp only [Bool.not_eq_true] at hu
          rw [hu] at hread
          obtain ⟨off, eoff⟩ : ∃ x, offs f k = x := ⟨_, rfl⟩
          obtain ⟨s, es⟩ : ∃ x, usz (f (offs f k)) = x := ⟨_, rfl⟩
          obtain ⟨o, eo⟩ : ∃ x, uow (f (offs f k)) = x := ⟨_, rfl⟩
          rw [eoff] at es eo
          rw [eoff2] at hn1 hn3
          rw [eoff, es] at hn1 hb48
          rw [eoff, es, eo] at hread hbs
          rw [eoff] at hk2 ho ⊢
          have e1 : IntKind.u64.wrap ((off : Int) + (s : Int)) = (off2 : Nat) := by rw [IntKind.wrap_u64]; omega
          clear hgood hb hbk hu hr r1 r2 r3 r4 hin
          go_wp2_with (first | (go_at_call 40; ((with_reducible refine (hl16 _ G0).mono ?_); rintro e w2 ⟨rfl, hg2⟩; have B2 := Lib.hid ((hg2.block _ (lt_of_block HB.out) (by simp)).trans HB.out); obtain ⟨m0, m1⟩ := two_cells B2.out)) | (go_at_call 44; ((with_reducible refine (hread _ (grown_trans G0 hg2)).mono ?_); rintro e w3 ⟨rfl, hg3⟩; have hga := World.grownBy_alloc w3 (.cells #[.int .u64 s, .bool false, .int .i64 o] 57) none; have G3 := grown_trans hg2 (grown_trans hg3 hga); obtain ⟨x0, x1, x2⟩ := tag_cells (tag_first (grown_refl (w3.alloc (.cells #[.int .u64 s, .bool false, .int .i64 o] 57)) none)); have hgb := World.grownBy_alloc (w3.alloc (.cells #[.int .u64 s, .bool false, .int .i64 o] 57)) (.cells #[.int .u64 off, .int .u64 s, .bool false, .int .i64 o, .int .u64 0] 59) none; have G4 := grown_trans G3 hgb; have T4 := Lib.hid (tag_first hgb); obtain ⟨y0, y1, y2⟩ := tag_cells T4.out; have K4 := Lib.hid (five_first (grown_refl ((w3.alloc (.cells #[.int .u64 s, .bool false, .int .i64 o] 57)).alloc (.cells #[.int .u64 off, .int .u64 s, .bool false, .int .i64 o, .int .u64 0] 59)) none)); have hrow4 := hrow0.later G4; have B4 := Lib.hid ((G4.block _ (lt_of_block HB.out) (by simp)).trans HB.out); obtain ⟨m4, m5⟩ := two_cells B4.out)) | (at_builtin; go_must (refine wpList_append_blk (blks_len _ _) hrow4 hlen' (Nat.le_trans hsz1 G4.size) ⟨off, s, false, o, 0⟩ rfl _ _ rfl rfl rfl (by simp) ?_); intro g cp w6 hrow6 hg6 hloc; have T6 := Lib.hid ((hg6.block _ (lt_of_block T4.out) (fun e => by have h1 := (HO.out _ e.symm).2; have h2 := (grown_trans hg2 hg3).size; omega)).trans T4.out); obtain ⟨z0, z1, z2⟩ := tag_cells T6.out))
          go_roundw
          case rel =>
            refine ⟨k + 1, hkN, by rw [eoff2], ?_⟩
            exact RwRel.next G0 HB.out hbs G4 hg6 HO.out hrow6
          case measure => simp [intOf]; omega
      · have hok2 := walks_bad hw hk (by rw [ez]; exact hk2) (fun h => hr h.1)
        subst hok2
        obtain ⟨r1, r2, r3, r4⟩ := rd_no hr
        rw [r1, r2, r3, r4] at hread
        simp only [show ((0 : Nat) : Int) = 0 from rfl, show ((12 : Nat) : Int) = 12 from rfl] at hread
        obtain ⟨off, eoff⟩ : ∃ x, offs f k = x := ⟨_, rfl⟩
        rw [eoff] at hread hk2 ho ⊢
        clear r1 r2 r3 r4 hr
        go_wp2_with (first | (go_at_call 40; ((with_reducible refine (hl16 _ G0).mono ?_); rintro e w2 ⟨rfl, hg2⟩; have B2 := Lib.hid ((hg2.block _ (lt_of_block HB.out) (by simp)).trans HB.out); obtain ⟨m0, m1⟩ := two_cells B2.out)) | (go_at_call 44; ((with_reducible refine (hread _ (grown_trans G0 hg2)).mono ?_); rintro e w3 ⟨rfl, hg3⟩; have hga := World.grownBy_alloc w3 (.cells #[.int .u64 0, .bool false, .int .i64 0] 57) none; have G3 := grown_trans hg2 (grown_trans hg3 hga); obtain ⟨x0, x1, x2⟩ := tag_cells (tag_first (grown_refl (w3.alloc (.cells #[.int .u64 0, .bool false, .int .i64 0] 57)) none)))))
        go_ret2
        exact ⟨_, rfl, World.ownsRow_nil _ _ _ _, grown_trans G0 G3⟩
    · obtain ⟨rfl, hok2⟩ := walks_end hw hk (by rw [ez]; exact hk2)
      subst hok2
      obtain ⟨off, eoff⟩ : ∃ x, offs f k = x := ⟨_, rfl⟩
      rw [eoff] at hk2 ⊢
      have hend : OwnB wr w.heap.size 59 (.slice va k vc) (wkL f k true) := hrow0.mono (Nat.le_succ _)
      have HEN := Lib.hid hend
      clear hend
      go_wp2_with (first | (go_at_call 40; ((with_reducible refine (hl16 _ G0).mono ?_); rintro e w2 ⟨rfl, hg2⟩; have B2 := Lib.hid ((hg2.block _ (lt_of_block HB.out) (by simp)).trans HB.out); obtain ⟨m0, m1⟩ := two_cells B2.out)))
      go_ret2
      exact ⟨_, rfl, HEN.out.later hg2, grown_trans G0 hg2⟩
end
end Go.Proofs.YthhboidjibdahaaGreat

/-
  Layer 6's plain answers: the contracts of Walk where the head is not checked, of place, Find, Merged and Beside.
  Conditions: the plain Tx and the blocks stand in memory; there are 131072 words, and 1000000 blocks, at most.
-/
namespace Go.Proofs.YthhboidjibdahaaGreat
open Go.RowKit
set_option linter.unusedVariables false
set_option linter.unusedSimpArgs false

section
variable {w : World} {base : Nat} {wv pv : Value} {ws : List Nat} {l : List (Nat × Nat)}
set_option maxHeartbeats 1000000 in
theorem rwalk_no (h : RTx w base wv pv ws l) (hbase : base ≤ w.heap.size) (hm : ws.length ≤ 131072) (hok : TxOk ws l) (hlt : ∀ x ∈ ws, x < 18446744073709551616) (hc : chkN ws l = 12) :
    Calls Tryz.prog 22 #[.agg #[wv, pv]] w fun e w' => e = .returned (.tuple #[.slice none 0 0, .int .i64 12]) ∧ w.grownBy w' none := by
  obtain ⟨wa, wn, wc, hwv⟩ := wv_form h.words
  subst hwv
  obtain ⟨pa, pn, pc, hpv⟩ := pv_form h.puts
  subst hpv
  have hg0 : w.grownBy (w.alloc (.cells #[.slice wa wn wc, .slice pa pn pc] 29)) none := World.grownBy_alloc _ _ _
  have hck := rcheck6_any (h.later hg0) (Nat.le_trans hbase hg0.size) hm hok hlt
  rw [hc] at hck
  simp only [show ((12 : Nat) : Int) = 12 from rfl] at hck
  clear h
  go_enter Tryz.func22, Tryz.ntmps22
  go_wp2_with (go_at_call 43; (with_reducible refine hck.mono ?_); rintro e w1 ⟨rfl, hg1⟩)
  go_ret2
  exact ⟨rfl, grown_trans hg0 hg1⟩
theorem rwalk_any (h : RTx w base wv pv ws l) (hbase : base ≤ w.heap.size) (hm : ws.length ≤ 131072) (hl : l.length ≤ 1000000) (hok : TxOk ws l) (hlt : ∀ x ∈ ws, x < 18446744073709551616) {bl : List Blk} {err : Nat} (hb : Heap ws l bl err) :
    Calls Tryz.prog 22 #[.agg #[wv, pv]] w fun e w' => ∃ v, e = .returned (.tuple #[v, .int .i64 (err : Nat)]) ∧ OwnB w' w.heap.size 59 v bl ∧ w.grownBy w' none := by
  rcases hb.is with ⟨hc, rfl, rfl⟩ | ⟨hc, N, ok, hw, rfl, rfl⟩
  · exact (rwalk_no h hbase hm hok hlt hc).mono fun e w' ⟨h1, h2⟩ => ⟨_, h1, World.ownsRow_nil _ _ _ _, h2⟩
  · exact rwalk_yes h hbase hm hl hok hlt hc hw (walks_small hm hc hw)
end
end Go.Proofs.YthhboidjibdahaaGreat

/-
  What most statements of layer 6 begin with: a formatted segment of 4480 bytes, in which blocks are laid, and then other words (laid).
  Conditions: the pieces and the pairs lie in memory.
-/
namespace Go.Proofs.YthhboidjibdahaaGreat
open Go.RowKit
set_option linter.unusedVariables false
set_option linter.unusedSimpArgs false

/-- words that are thought of, and k pairs more -/
def thinkF (ws : List Nat) (l : List (Nat × Nat)) (X V : Nat → Nat) : Nat → List (Nat × Nat)
  | 0 => l
  | k + 1 => txStore ws (thinkF ws l X V k) (X k) (V k)
theorem thinkF_ok {ws : List Nat} {l : List (Nat × Nat)} {X V : Nat → Nat} (h : TxOk ws l) (hV : ∀ i, V i < 18446744073709551616) : ∀ k, TxOk ws (thinkF ws l X V k) := by
  intro k
  induction k with
  | zero => exact h
  | succ k ih => exact ih.store _ (hV k)
theorem store_take {ws : List Nat} {l : List (Nat × Nat)} (h : TxOk ws l) {k : Nat} (hk : k < l.length) : txStore ws (l.take k) (txX l k) (txV l k) = l.take (k + 1) := by
  have hp : (txX l k, txV l k) = l[k] := by
    unfold txX txV
    rw [List.getD_eq_getElem?_getD, List.getElem?_eq_getElem hk]
    rfl
  have hmem : (txX l k, txV l k) ∈ l := by rw [hp]; exact List.getElem_mem hk
  have hs : stands ws (txX l k) := h.stand _ hmem
  have hn : txGet (l.take k) (txX l k) = none := by
    rw [txGet_none]
    intro hx
    unfold txKeys at hx
    rw [List.mem_map] at hx
    obtain ⟨p, hp1, hp2⟩ := hx
    obtain ⟨j, hj, hje⟩ := List.mem_iff_getElem.1 hp1
    have hjk : j < k := by simp at hj; omega
    rw [List.getElem_take] at hje
    refine h.apart hk hjk ?_
    rw [← hp2, ← hje]
    unfold txX
    rw [List.getD_eq_getElem?_getD, List.getElem?_eq_getElem (by omega)]
    rfl
  unfold txStore
  rw [if_pos hs, txSet_new _ hn, hp, List.take_succ_eq_append_getElem hk]
section
variable {w wr : World} {T M B D bx b6 : Nat} {wv : Value} {ws : List Nat} {l l' : List (Nat × Nat)}
/-- the plain answer's words are others -/
theorem ThMid.told {w4 : World} {pv' : Value} {l2 : List (Nat × Nat)} (h : ThMid w T M B D bx b6 wv ws l l' wr) (hg : wr.grownBy w4 none) (hr : RTx w4 w.heap.size wv pv' ws l2) (hbx : w.heap.size ≤ bx) (hne : bx ≠ b6) :
    ThMid w T M B D bx b6 wv ws l2 l' ((w4.setCell ⟨bx, 0, none⟩ wv).setCell ⟨bx, 1, none⟩ pv') := by
  obtain ⟨R, h1, h2⟩ := h.tx
  obtain ⟨pv, h3, _⟩ := h.box
  have h3' := (hg.block _ (lt_of_block h3) (by simp)).trans h3
  have hs : w4.grownBy ((w4.setCell ⟨bx, 0, none⟩ wv).setCell ⟨bx, 1, none⟩ pv') (some bx) := grown_trans (grown_set _ _ _ _) (grown_set _ _ _ _)
  refine ⟨⟨R, (h1.later hg).other h3' hbx hs, h2⟩, ⟨pv', ?_, hr.other h3' hs⟩, ?_⟩
  · rw [heap_setCell_same (heap_setCell_same h3' wv) pv']; rfl
  · have := (hg.block _ (lt_of_block h.res) (by simp)).trans h.res
    exact (hs.block _ (lt_of_block this) (by simpa using hne.symm)).trans this
/-- the program's Tx has a word more -/
theorem ThMid.more (h : ThMid w T M B D bx b6 wv ws l l' wr) (off v : Nat) (ho : off < 18446744073709551616) (hv : v < 18446744073709551616) :
    Calls Tryz.prog 21 #[.pointer (some ⟨T, 0, none⟩), .int .u64 off, .int .u64 v] wr fun e w' => e = .returned (.tuple #[]) ∧ ThMid w T M B D bx b6 wv ws l (txStore ws l' off v) w' := by
  obtain ⟨R, h1, h2⟩ := h.tx
  refine (txstore_any h1.tx off v ho hv).mono ?_
  rintro e w' ⟨rfl, ht⟩
  obtain ⟨R', k1, k2, k3⟩ := h1.step ht
  obtain ⟨pv, h3, h4⟩ := h.box
  refine ⟨rfl, ⟨R', k1, fun g hg => ?_⟩, ⟨pv, k2.heap h3 (h1.tx.far h3 (by decide) (by decide)), ⟨OwnW.past h1.tx k2 h4.words h2, OwnP.past h1.tx k2 h4.puts⟩⟩, k2.heap h.res (h1.tx.far h.res (by decide) (by decide))⟩
  rcases k3 with rfl | ⟨g', rfl, hg'⟩
  · exact h2 g hg
  · intro e
    injection e with e
    obtain ⟨_, cur, hb⟩ := row_block h4.words hg
    have := lt_of_block hb
    omega
end
theorem Txs.from {w W0 w1 : World} {T M : Nat} {R : Option Nat} {B D : Nat} {ws : List Nat} {l : List (Nat × Nat)} (hg : w.grownBy W0 none) (h : Txs W0 w1 T M R B D ws l) : Txs w w1 T M R B D ws l where
  tx := h.tx
  since := grown_trans hg h.since
  newT := Nat.le_trans hg.size h.newT
  newM := Nat.le_trans hg.size h.newM
  newR := fun g e => Nat.le_trans hg.size (h.newR g e)
  newB := Nat.le_trans hg.size h.newB
  newD := Nat.le_trans hg.size h.newD
theorem RTx.mono {w : World} {base base' : Nat} {wv pv : Value} {ws : List Nat} {l : List (Nat × Nat)} (h : RTx w base wv pv ws l) (hb : base' ≤ base) : RTx w base' wv pv ws l := ⟨h.words.mono hb, World.ownsRow.mono h.puts hb⟩
/-- What laid tells: L is what the plain answer has thought of. -/
def Laid0 (w : World) (X V : Nat → Nat) (m : Nat) (e : Ending) (w' : World) : Prop :=
  ∃ l N, Laid6 l N ∧ Formed w (fmt48 4480) (thinkF (fmt48 4480) l X V m) e w'
end Go.Proofs.YthhboidjibdahaaGreat

/-
  Arguments that are lists of pieces, and lists of plain blocks, opened.
  No condition.
-/
namespace Go.Proofs.YthhboidjibdahaaGreat
open Go.ChangeShapes Go.WideShapes Go.ChangeAt Go.RowKit Go.Deep
set_option linter.unusedVariables false
set_option linter.unusedSimpArgs false

theorem cells_u8 : Tryz.prog.cellsOf 5 = 1 := by kernel_rfl
theorem cells_u16 : Tryz.prog.cellsOf 88 = 1 := by kernel_rfl
theorem cells_piece : Tryz.prog.cellsOf 90 = 3 := by kernel_rfl
theorem cells_rblk : Tryz.prog.cellsOf 59 = 5 := by kernel_rfl
theorem cells_bool : Tryz.prog.cellsOf 4 = 1 := by kernel_rfl
theorem cells_int : Tryz.prog.cellsOf 3 = 1 := by kernel_rfl
section
variable {H : Type} {enc : TypeId × Value → H} {w : World}
set_option maxRecDepth 100000 in
theorem piece_fields {n : Nat} {cs : List Value} {x : DataW H × List MemPlace} (h : DataW.trod enc Tryz.prog w 0 (fun _ => true) true n 90 cs = some x) :
    ∃ a b c : Nat, cs = [.int .u8 a, .int .u8 b, .int .u16 c] ∧ a < 256 ∧ b < 256 ∧ c < 65536 := by
  obtain ⟨xs, k, _, _, hcl, hxl, hf⟩ := DataW.trod_struct Tryz.underlying90 h
  rw [cells_piece] at hcl
  match xs, hxl, cs, hcl with
  | [y0, y1, y2], _, [v0, v1, v2], _ =>
    have g0 := hf 0 _ rfl
    have g1 := hf 1 _ rfl
    have g2 := hf 2 _ rfl
    simp [cells_u8, cells_u16] at g0 g1 g2
    obtain ⟨k0, e0, _, w0⟩ := DataW.trod_int Tryz.underlying5 g0
    obtain ⟨k1, e1, _, w1⟩ := DataW.trod_int Tryz.underlying5 g1
    obtain ⟨k2, e2, _, w2⟩ := DataW.trod_int Tryz.underlying88 g2
    simp only [List.cons.injEq, and_true] at e0 e1 e2
    have b0 := bounds_u8 w0
    have b1 := bounds_u8 w1
    have b2 := bounds_u16 w2
    obtain ⟨x, rfl⟩ := Int.eq_ofNat_of_zero_le b0.1
    obtain ⟨y, rfl⟩ := Int.eq_ofNat_of_zero_le b1.1
    obtain ⟨z, rfl⟩ := Int.eq_ofNat_of_zero_le b2.1
    exact ⟨x, y, z, by rw [e0, e1, e2], by omega, by omega, by omega⟩
set_option maxRecDepth 100000 in
theorem block_fields {n : Nat} {cs : List Value} {x : DataW H × List MemPlace} (h : DataW.trod enc Tryz.prog w 0 (fun _ => true) true n 59 cs = some x) :
    ∃ b : Blk, cs = b.row ∧ b.off < 18446744073709551616 := by
  obtain ⟨xs, k, _, _, hcl, hxl, hf⟩ := DataW.trod_struct Tryz.underlying59 h
  rw [cells_rblk] at hcl
  match xs, hxl, cs, hcl with
  | [y0, y1, y2], _, [v0, v1, v2, v3, v4], _ =>
    have g0 := hf 0 _ rfl
    have g1 := hf 1 _ rfl
    have g2 := hf 2 _ rfl
    simp [cells_u64, cells_rtag] at g0 g1 g2
    obtain ⟨zs, k', _, _, hcl', hzl, hg⟩ := DataW.trod_struct Tryz.underlying57 g1
    match zs, hzl with
    | [z0, z1, z2], _ =>
      have t0 := hg 0 _ rfl
      have t1 := hg 1 _ rfl
      have t2 := hg 2 _ rfl
      simp [cells_u64, cells_bool, cells_int] at t0 t1 t2
      obtain ⟨k0, e0, _, w0⟩ := DataW.trod_int Tryz.underlying33 g0
      obtain ⟨k1, e1, _, w1⟩ := DataW.trod_int Tryz.underlying33 t0
      obtain ⟨k2, e2, _⟩ := DataW.trod_bool Tryz.underlying4 t1
      obtain ⟨k3, e3, _, w3⟩ := DataW.trod_int Tryz.underlying3 t2
      obtain ⟨k4, e4, _, w4⟩ := DataW.trod_int Tryz.underlying33 g2
      simp only [List.cons.injEq, and_true] at e0 e1 e2 e3 e4
      have b0 := bounds_u64 w0
      have b1 := bounds_u64 w1
      have b4 := bounds_u64 w4
      obtain ⟨x, rfl⟩ := Int.eq_ofNat_of_zero_le b0.1
      obtain ⟨y, rfl⟩ := Int.eq_ofNat_of_zero_le b1.1
      obtain ⟨z, rfl⟩ := Int.eq_ofNat_of_zero_le b4.1
      exact ⟨⟨x, y, k2, k3, z⟩, by rw [e0, e1, e2, e3, e4]; rfl, by show x < _; omega⟩
theorem plain_spot {a : Addr} {v : Value} (h : w.cell? (a.add 0) = some v) : ∃ b off, a = ⟨b, off, none⟩ ∧ b < w.heap.size := by
  obtain ⟨b, off, spot⟩ := a
  have ho : (⟨b, off, spot⟩ : Addr).add 0 = ⟨b, off, spot⟩ := rfl
  rw [ho] at h
  have hb : b < w.heap.size := by
    rcases Nat.lt_or_ge b w.heap.size with h' | h'
    · exact h'
    · simp [World.cell?, Array.getElem?_eq_none h'] at h
  rcases spot with _ | s
  · exact ⟨b, off, rfl, hb⟩
  · exfalso
    unfold World.cell? at h
    simp only at h
    split at h <;> simp at h
set_option maxRecDepth 100000 in
theorem open_pieces {r : Reach} {b0 : Nat} {v : Value} {d : DataW H} {p : List MemPlace} (hv : Value.okWide Tryz.prog w r b0 22 v) (h : DataW.Trod enc Tryz.prog w 0 (fun _ => true) true 22 v d p) :
    ∃ la n c A B C, v = .slice la n c ∧ n ≤ c ∧ n ≤ maxLen ∧ PiecesAt w la n A B C := by
  obtain ⟨a0, l0, c0, rfl⟩ := okWide_slice Tryz.underlying22 hv
  obtain ⟨fuel, hf⟩ := h
  rcases open_slice Tryz.underlying22 hf with ⟨h0, _⟩ | ⟨a, len, cap, m, n, D, Pl, hcs, _, hl, hm, hmeq, hx, hall⟩
  · simp [Value.cells] at h0
    obtain ⟨rfl, rfl, rfl⟩ := h0
    exact ⟨none, 0, 0, fun _ => 0, fun _ => 0, fun _ => 0, rfl, Nat.le_refl _, Nat.zero_le _, ⟨fun _ => ⟨by decide, by decide, by decide⟩, fun h => by omega⟩⟩
  · simp [Value.cells] at hcs
    obtain ⟨rfl, rfl, rfl⟩ := hcs
    simp only [if_true] at hmeq
    subst hmeq
    have key : ∀ i, i < l0 → ∃ x y z : Nat, w.cell? (a.add (i * 3)) = some (.int .u8 (x : Nat)) ∧ w.cell? (a.add (i * 3 + 1)) = some (.int .u8 (y : Nat)) ∧ w.cell? (a.add (i * 3 + 2)) = some (.int .u16 (z : Nat)) ∧ x < 256 ∧ y < 256 ∧ z < 65536 := by
      intro i hi
      obtain ⟨cs, h1, h2⟩ := hall i (by omega)
      rw [cells_piece] at h1
      obtain ⟨_, hlen, hcell⟩ := World.cells?_some h1
      obtain ⟨x, y, z, rfl, hx, hy, hz⟩ := piece_fields h2
      have e0 := hcell 0 (by omega)
      have e1 := hcell 1 (by omega)
      have e2 := hcell 2 (by omega)
      rw [add_add] at e0 e1 e2
      exact ⟨x, y, z, by simpa using e0, by simpa using e1, by simpa using e2, hx, hy, hz⟩
    obtain ⟨q, hq⟩ := choose_lt (α := Nat × Nat × Nat) (p := fun i q => w.cell? (a.add (i * 3)) = some (.int .u8 (q.1 : Nat)) ∧ w.cell? (a.add (i * 3 + 1)) = some (.int .u8 (q.2.1 : Nat)) ∧ w.cell? (a.add (i * 3 + 2)) = some (.int .u16 (q.2.2 : Nat)) ∧ q.1 < 256 ∧ q.2.1 < 256 ∧ q.2.2 < 65536) (fun i hi => by
      obtain ⟨x, y, z, h⟩ := key i hi
      exact ⟨(x, y, z), h⟩)
    refine ⟨some a, l0, m, fun i => if i < l0 then (q i).1 else 0, fun i => if i < l0 then (q i).2.1 else 0, fun i => if i < l0 then (q i).2.2 else 0, rfl, hl, Nat.le_trans hl hm, ⟨fun i => ?_, fun hn => ?_⟩⟩
    · by_cases hi : i < l0
      · simp only [hi, if_true]
        exact (hq i hi).2.2.2
      · simp only [hi, if_false]
        exact ⟨by decide, by decide, by decide⟩
    · obtain ⟨b, off, rfl, hb⟩ := plain_spot (hq 0 hn).1
      have hadd : ∀ j, (⟨b, off, none⟩ : Addr).add j = ⟨b, off + j, none⟩ := fun j => by unfold Addr.add; split <;> simp_all
      refine ⟨b, off, rfl, hb, fun i hi => ?_⟩
      obtain ⟨c0, c1, c2, _⟩ := hq i hi
      rw [hadd] at c0 c1 c2
      simp only [hi, if_true]
      exact ⟨c0, by rw [Nat.add_assoc]; exact c1, by rw [Nat.add_assoc]; exact c2⟩
set_option maxRecDepth 100000 in
theorem open_blks {r : Reach} {b0 : Nat} {v : Value} {d : DataW H} {p : List MemPlace} (hv : Value.okWide Tryz.prog w r b0 53 v) (h : DataW.Trod enc Tryz.prog w 0 (fun _ => true) true 53 v d p) :
    ∃ la c, ∃ l : List Blk, v = .slice la l.length c ∧ l.length ≤ maxLen ∧ BlksAt w la l := by
  obtain ⟨a0, l0, c0, rfl⟩ := okWide_slice Tryz.underlying53 hv
  obtain ⟨fuel, hf⟩ := h
  rcases open_slice Tryz.underlying53 hf with ⟨h0, _⟩ | ⟨a, len, cap, m, n, D, Pl, hcs, _, hl, hm, hmeq, hx, hall⟩
  · simp [Value.cells] at h0
    obtain ⟨rfl, rfl, rfl⟩ := h0
    exact ⟨none, 0, [], rfl, Nat.zero_le _, ⟨fun h => by simp at h⟩⟩
  · simp [Value.cells] at hcs
    obtain ⟨rfl, rfl, rfl⟩ := hcs
    simp only [if_true] at hmeq
    subst hmeq
    have key : ∀ i, i < l0 → ∃ b : Blk, ∀ j u, j < 5 → b.row[j]? = some u → w.cell? (a.add (i * 5 + j)) = some u := by
      intro i hi
      obtain ⟨cs, h1, h2⟩ := hall i (by omega)
      rw [cells_rblk] at h1
      obtain ⟨_, hlen, hcell⟩ := World.cells?_some h1
      obtain ⟨b, rfl, hb⟩ := block_fields h2
      refine ⟨b, fun j u hj hu => ?_⟩
      have e := hcell j hj
      rw [add_add] at e
      rw [e]
      exact hu
    obtain ⟨q, hq⟩ := choose_lt (α := Blk) key
    have hget : ∀ k, k < l0 → ((List.range l0).map q).getD k default = q k := fun k hk => by
      rw [List.getD_eq_getElem?_getD, List.getElem?_map, List.getElem?_range hk]
      rfl
    refine ⟨some a, m, (List.range l0).map q, by simp, by rw [List.length_map, List.length_range]; omega, ⟨fun hn => ?_⟩⟩
    rw [List.length_map, List.length_range] at hn ⊢
    obtain ⟨b, off, rfl, hb⟩ := plain_spot (hq 0 hn 0 _ (by decide) rfl)
    have hadd : ∀ j, (⟨b, off, none⟩ : Addr).add j = ⟨b, off + j, none⟩ := fun j => by unfold Addr.add; split <;> simp_all
    refine ⟨b, off, rfl, hb, fun k hk => ?_⟩
    have h0 := hq k hk 0 _ (by decide) rfl
    have h1 := hq k hk 1 _ (by decide) rfl
    have h2 := hq k hk 2 _ (by decide) rfl
    have h3 := hq k hk 3 _ (by decide) rfl
    have h4 := hq k hk 4 _ (by decide) rfl
    rw [hadd] at h0 h1 h2 h3 h4
    unfold gO gS gU gW gN
    rw [hget k hk]
    exact ⟨h0, by rw [Nat.add_assoc]; exact h1, by rw [Nat.add_assoc]; exact h2, by rw [Nat.add_assoc]; exact h3, by rw [Nat.add_assoc]; exact h4⟩
end
end Go.Proofs.YthhboidjibdahaaGreat
