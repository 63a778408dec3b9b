/-
  Texts of one layer, one behind the other: memory, contracts of the functions, and what follows of them.
  Conditions: as each theorem says.
-/
import Derived.Test.YtmcnpenihoaajaaGreatLPhb
import Derived.Test.YtmcnpenihoaajaaGreatLRea
import Derived.Deep.Slices
import Derived.Test.YtmcnpenihoaajaaGreatLCaa
import Derived.Test.YtmcnpenihoaajaaGreatLSea
import Derived.Deep.MidRow
import Derived.Laws.Rows
import Derived.Test.YtmcnpenihoaajaaGreatLWoa
import Derived.LoopTactic
import Derived.Deep.LoopGhost
import Derived.Test.YtmcnpenihoaajaaGreatLTaa
import Derived.StillTailTactics
import Derived.Deep.RegionHeld3
import Derived.Deep.QuietTactic
import Derived.BigQuiet
import Derived.Laws.StructEq
import Derived.Deep.AppendLies
import Derived.Laws.AppendOwnNone
import Derived.Test.YtmcnpenihoaajaaGreatLTxa
import Derived.RangeFuncCalls
import Derived.TacticsInMore
import Derived.OrdersIn
import Derived.Test.YtmcnpenihoaajaaGreatLHea
import Derived.Test.YtmcnpenihoaajaaGreatLTra
import Derived.Lib.AppendZeros
import Derived.Laws.IdiomCopy
import Derived.Lib.SliceRun
import Derived.Maps.AppendAt
import Derived.Shelf.Spec.SlicesInsert
import Derived.Lib.AppendZerosOnto
import Derived.Laws.NewBlocks
import Derived.Lib.Overlaps
import Derived.Deep.RegionLaw
import Derived.Test.YtmcnpenihoaajaaGreatLClb
import Derived.Test.YtmcnpenihoaajaaGreatLCla
import Derived.Test.YtmcnpenihoaajaaGreatLDia
import Derived.Maps.OwnIn
import Derived.Test.YtmcnpenihoaajaaGreatLTrd
import Derived.Test.YtmcnpenihoaajaaGreatLPha
set_option linter.unusedVariables false
set_option linter.unusedSimpArgs false
namespace Go.Proofs.YtmcnpenihoaajaaGreat
open Go.RowKit
set_option maxRecDepth 100000
theorem ne_typeK {w : World} {a b : Nat} {c c' : Array Value} {t t' : TypeId} {f f' : Nat × Nat} (h : w.heap[a]? = some (.cells c t f)) (h' : w.heap[b]? = some (.cells c' t' f')) (hne : t ≠ t') : a ≠ b := by
  intro e
  subst e
  rw [h] at h'
  injection h' with h'
  injection h' with _ h2 _
  exact hne h2
theorem turned_of {w w' : World} {row : Option Nat} {p : Nat → Prop} (h : w.grownBy w' row) (hp : ∀ k, row = some k → p k) : Turned p w w' :=
  ⟨h.os, h.tape, h.output, h.size, fun k hk hn => h.block k hk (fun e => hn (hp k e.symm))⟩
theorem turned_trans {p q : Nat → Prop} {a b c : World} (h : Turned p a b) (k : Turned q b c) (hq : ∀ i, q i → p i ∨ a.heap.size ≤ i) : Turned p a c :=
  ⟨k.os.trans h.os, k.tape.trans h.tape, k.output.trans h.output, Nat.le_trans h.size k.size, fun i hi hn =>
    (k.block i (Nat.lt_of_lt_of_le hi h.size) (fun hk => by
      rcases hq i hk with h' | h'
      · exact hn h'
      · omega)).trans (h.block i hi hn)⟩
theorem turned_mono {p q : Nat → Prop} {w w' : World} (h : Turned p w w') (hq : ∀ k, k < w.heap.size → p k → q k) : Turned q w w' :=
  ⟨h.os, h.tape, h.output, h.size, fun k hk hn => h.block k hk (fun hp => hn (hq k hk hp))⟩
theorem turned_heap {p : Nat → Prop} {w w' : World} (h : Turned p w w') {b : Nat} {o : Obj} (hb : w.heap[b]? = some o) (hn : ¬ p b) : w'.heap[b]? = some o := (h.block b (lt_of_block hb) hn).trans hb
structure KB where
  b : Blk
  a : Option Addr
  m : Nat
  c : Nat
  d : List Nat
def KB.cel (k : KB) : List Value := [.int .u64 (k.b.off : Nat), .int .u64 (k.b.s : Nat), .bool k.b.u, .int .i64 k.b.o, .int .u64 (k.b.n : Nat), .slice k.a k.m k.c]
theorem KB.cel_len (k : KB) : k.cel.length = 6 := rfl
theorem KB.cel_one (k : KB) : ∀ v ∈ k.cel, v.oneCell' = true := by
  intro v hv
  simp only [KB.cel, List.mem_cons, List.mem_nil_iff, or_false] at hv
  rcases hv with rfl | rfl | rfl | rfl | rfl | rfl <;> rfl
instance : Inhabited KB := ⟨⟨default, none, 0, 0, []⟩⟩
def updK (f : Nat → KB) (k : Nat) (x : KB) : Nat → KB := fun j => if j = k then x else f j
theorem updK_same (f : Nat → KB) (k : Nat) (x : KB) : updK f k x k = x := if_pos rfl
theorem updK_ne {f : Nat → KB} {k j : Nat} {x : KB} (h : j ≠ k) : updK f k x j = f j := if_neg h
structure RowF (w : World) (g cap n : Nat) (f : Nat → KB) : Prop where
  ex : ∃ cur : Array Value, w.heap[g]? = some (.cells cur 90 (0, 0)) ∧ cur.size = cap * 6 ∧ ∀ j, j < n → ∀ i, i < 6 → cur[j * 6 + i]? = (f j).cel[i]?
  le : n ≤ cap
  cap : cap ≤ maxLen
section
variable {w w' : World} {g cap n k i : Nat} {f f' : Nat → KB} {x : KB} {v : Value}
theorem RowF.blk (h : RowF w g cap n f) : ∃ cur : Array Value, w.heap[g]? = some (.cells cur 90 (0, 0)) ∧ cur.size = cap * 6 := by
  obtain ⟨cur, h1, h2, _⟩ := h.ex
  exact ⟨cur, h1, h2⟩
theorem RowF.lt (h : RowF w g cap n f) : g < w.heap.size := by
  obtain ⟨cur, h1, h2, _⟩ := h.ex
  exact lt_of_block h1
theorem RowF.congr (h : RowF w g cap n f) (he : ∀ j, j < n → f' j = f j) : RowF w g cap n f' := by
  obtain ⟨cur, h1, h2, h3⟩ := h.ex
  exact ⟨⟨cur, h1, h2, fun j hj i hi => by rw [he j hj]; exact h3 j hj i hi⟩, h.le, h.cap⟩
theorem RowF.kept {row : Option Nat} (h : RowF w g cap n f) (hg : w.grownBy w' row) (hr : row ≠ some g) : RowF w' g cap n f := by
  obtain ⟨cur, h1, h2⟩ := h.ex
  exact ⟨⟨cur, (hg.block _ (lt_of_block h1) (fun e => hr e.symm)).trans h1, h2⟩, h.le, h.cap⟩
theorem RowF.later (h : RowF w g cap n f) (hg : w.grownBy w' none) : RowF w' g cap n f := h.kept hg (by simp)
theorem RowF.other {b : Nat} {c : Array Value} {t : TypeId} {fr : Nat × Nat} (h : RowF w g cap n f) (hb : w.heap[b]? = some (.cells c t fr)) (ht : t ≠ 90) (hg : w.grownBy w' (some b)) : RowF w' g cap n f := by
  obtain ⟨cur, h1, h2⟩ := h.blk
  exact h.kept hg (fun e => by injection e with e; exact ne_typeK hb h1 ht e)
theorem RowF.turned {p : Nat → Prop} (h : RowF w g cap n f) (hg : Turned p w w') (hr : ¬ p g) : RowF w' g cap n f := by
  obtain ⟨cur, h1, h2⟩ := h.ex
  exact ⟨⟨cur, hg.heap h1 hr, h2⟩, h.le, h.cap⟩
theorem RowF.frz (h : RowF w g cap n f) (i : Nat) : w.frozen? ⟨g, i, none⟩ = false := by
  obtain ⟨cur, h1, _⟩ := h.ex
  simp [World.frozen?, h1]
theorem RowF.cell (h : RowF w g cap n f) (hk : k < n) (hi : i < 6) : w.cell? ⟨g, k * 6 + i, none⟩ = (f k).cel[i]? := by
  obtain ⟨cur, h1, h2, h3⟩ := h.ex
  simp [World.cell?, h1, h3 k hk i hi]
theorem RowF.cells (h : RowF w g cap n f) (hk : k < n) : w.cell? ⟨g, k * 6, none⟩ = some (.int .u64 ((f k).b.off : Nat)) ∧ w.cell? ⟨g, k * 6 + 1, none⟩ = some (.int .u64 ((f k).b.s : Nat)) ∧ w.cell? ⟨g, k * 6 + 2, none⟩ = some (.bool (f k).b.u) ∧ w.cell? ⟨g, k * 6 + 3, none⟩ = some (.int .i64 (f k).b.o) ∧ w.cell? ⟨g, k * 6 + 4, none⟩ = some (.int .u64 ((f k).b.n : Nat)) ∧ w.cell? ⟨g, k * 6 + 5, none⟩ = some (.slice (f k).a (f k).m (f k).c) :=
  ⟨h.cell hk (i := 0) (by decide), h.cell hk (i := 1) (by decide), h.cell hk (i := 2) (by decide), h.cell hk (i := 3) (by decide), h.cell hk (i := 4) (by decide), h.cell hk (i := 5) (by decide)⟩
theorem RowF.has (h : RowF w g cap n f) {j : Nat} (hj : j < cap * 6) : (w.cell? ⟨g, j, none⟩).isSome = true := by
  obtain ⟨cur, h1, h2, _⟩ := h.ex
  simp [World.cell?, h1]
  omega
theorem RowF.set (h : RowF w g cap n f) (hk : k < n) (hi : i < 6) (hx : x.cel = (f k).cel.set i v) : RowF (w.setCell ⟨g, k * 6 + i, none⟩ v) g cap n (updK f k x) := by
  obtain ⟨cur, h1, h2, h3⟩ := h.ex
  refine ⟨⟨cur.setIfInBounds (k * 6 + i) v, by rw [heap_setCell_same h1 v], by simp [h2], fun j hj i' hi' => ?_⟩, h.le, h.cap⟩
  by_cases hjk : j = k
  · subst hjk
    rw [updK_same, hx]
    by_cases hii : i' = i
    · subst hii
      have hle := h.le
      rw [Array.getElem?_setIfInBounds_self_of_lt (by omega), List.getElem?_set_self (by rw [KB.cel_len]; exact hi)]
    · rw [Array.getElem?_setIfInBounds_ne (by omega), List.getElem?_set_ne (fun e => hii e.symm)]
      exact h3 j hj i' hi'
  · rw [updK_ne hjk, Array.getElem?_setIfInBounds_ne (by omega)]
    exact h3 j hj i' hi'
theorem updK_upd (f : Nat → KB) (k : Nat) (x y : KB) : updK (updK f k x) k y = updK f k y := by
  funext j
  unfold updK
  split <;> rfl
theorem RowF.put (h : RowF w g cap n f) (hk : k < n) (x : KB) : RowF ((((((w.setCell ⟨g, k * 6, none⟩ (.int .u64 (x.b.off : Nat))).setCell ⟨g, k * 6 + 1, none⟩ (.int .u64 (x.b.s : Nat))).setCell ⟨g, k * 6 + 2, none⟩ (.bool x.b.u)).setCell ⟨g, k * 6 + 3, none⟩ (.int .i64 x.b.o)).setCell ⟨g, k * 6 + 4, none⟩ (.int .u64 (x.b.n : Nat))).setCell ⟨g, k * 6 + 5, none⟩ (.slice x.a x.m x.c)) g cap n (updK f k x) := by
  obtain ⟨y, hy⟩ : ∃ y, f k = y := ⟨_, rfl⟩
  obtain ⟨⟨y0, y1, y2, y3, y4⟩, ya, ym, yc, yd⟩ := y
  have h1 := h.set (v := .int .u64 (x.b.off : Nat)) (i := 0) (x := ⟨⟨x.b.off, y1, y2, y3, y4⟩, ya, ym, yc, yd⟩) hk (by decide) (by rw [hy]; rfl)
  have h2 := h1.set (v := .int .u64 (x.b.s : Nat)) (k := k) (i := 1) (x := ⟨⟨x.b.off, x.b.s, y2, y3, y4⟩, ya, ym, yc, yd⟩) hk (by decide) (by rw [updK_same]; rfl)
  have h3 := h2.set (v := .bool x.b.u) (k := k) (i := 2) (x := ⟨⟨x.b.off, x.b.s, x.b.u, y3, y4⟩, ya, ym, yc, yd⟩) hk (by decide) (by rw [updK_same]; rfl)
  have h4 := h3.set (v := .int .i64 x.b.o) (k := k) (i := 3) (x := ⟨⟨x.b.off, x.b.s, x.b.u, x.b.o, y4⟩, ya, ym, yc, yd⟩) hk (by decide) (by rw [updK_same]; rfl)
  have h5 := h4.set (v := .int .u64 (x.b.n : Nat)) (k := k) (i := 4) (x := ⟨x.b, ya, ym, yc, yd⟩) hk (by decide) (by rw [updK_same]; rfl)
  have h6 := h5.set (v := .slice x.a x.m x.c) (k := k) (i := 5) (x := x) hk (by decide) (by rw [updK_same]; rfl)
  simp only [updK_upd] at h6
  exact h6
end
section
variable {w w' : World} {B : Nat} {x0 x1 x2 x3 x4 x5 : Value} {t : TypeId}
theorem six_cells (h : w.heap[B]? = some (.cells #[x0, x1, x2, x3, x4, x5] t (0, 0))) : w.cell? ⟨B, 0, none⟩ = some x0 ∧ w.cell? ⟨B, 1, none⟩ = some x1 ∧ w.cell? ⟨B, 2, none⟩ = some x2 ∧ w.cell? ⟨B, 3, none⟩ = some x3 ∧ w.cell? ⟨B, 4, none⟩ = some x4 ∧ w.cell? ⟨B, 5, none⟩ = some x5 := by
  refine ⟨?_, ?_, ?_, ?_, ?_, ?_⟩ <;> simp [World.cell?, h]
end
def stC (all : Nat) (bv mv : Value) (lv : Nat → Bool) : Array Value := #[.int .u64 (all : Nat), bv, mv, .bool (lv 0), .bool (lv 1), .bool (lv 2), .bool (lv 3), .bool (lv 4), .bool (lv 5), .bool (lv 6), .bool (lv 7)]
end Go.Proofs.YtmcnpenihoaajaaGreat
namespace Go.Proofs.YtmcnpenihoaajaaGreat
open Go.RowKit
set_option maxRecDepth 100000
section
variable {w w' : World} {g cap n p : Nat} {f : Nat → KB}
structure StB (w : World) (P g cap n all : Nat) (f : Nat → KB) (mv : Value) (lv : Nat → Bool) : Prop where
  box : w.heap[P]? = some (.cells (stC all (.slice (some ⟨g, 0, none⟩) n cap) mv lv) 94 (0, 0))
  row : RowF w g cap n f
theorem StB.later {P all : Nat} {mv : Value} {lv : Nat → Bool} (h : StB w P g cap n all f mv lv) (hg : w.grownBy w' none) : StB w' P g cap n all f mv lv :=
  ⟨(hg.block _ (lt_of_block h.box) (by simp)).trans h.box, h.row.later hg⟩
theorem StB.cells {P all : Nat} {mv : Value} {lv : Nat → Bool} (h : StB w P g cap n all f mv lv) : w.cell? ⟨P, 0, none⟩ = some (.int .u64 (all : Nat)) ∧ w.cell? ⟨P, 1, none⟩ = some (.slice (some ⟨g, 0, none⟩) n cap) ∧ w.cell? ⟨P, 2, none⟩ = some mv := by
  have hb := h.box
  refine ⟨?_, ?_, ?_⟩ <;> simp [World.cell?, hb, stC]
theorem StB.frz {P all : Nat} {mv : Value} {lv : Nat → Bool} (h : StB w P g cap n all f mv lv) (i : Nat) : w.frozen? ⟨P, i, none⟩ = false := by
  have hb := h.box
  simp [World.frozen?, hb]
end
end Go.Proofs.YtmcnpenihoaajaaGreat
namespace Go.Proofs.YtmcnpenihoaajaaGreat
open Go.RowKit
set_option maxRecDepth 100000
theorem info_kb : (Tryz.prog.info? 90).map (fun i => (i.zero, i.size, i.bytes)) = some (some (.agg #[.int .u64 0, .int .u64 0, .bool false, .int .i64 0, .int .u64 0, .slice none 0 0]), 6, 64) := by kernel_rfl
section
variable {w w' : World} {g cap n m : Nat} {f : Nat → KB}
theorem cells_lit (W : World) (x : KB) : ∀ j u, x.cel[j]? = some u → (W.alloc (.cells #[.int .u64 (x.b.off : Nat), .int .u64 (x.b.s : Nat), .bool x.b.u, .int .i64 x.b.o, .int .u64 (x.b.n : Nat), .slice x.a x.m x.c] 90)).cell? ((⟨W.heap.size, 0, none⟩ : Addr).add j) = some u := by
  intro j u hj
  have h := heap_alloc_new' W (.cells #[.int .u64 (x.b.off : Nat), .int .u64 (x.b.s : Nat), .bool x.b.u, .int .i64 x.b.o, .int .u64 (x.b.n : Nat), .slice x.a x.m x.c] 90)
  have hadd : (⟨W.heap.size, 0, none⟩ : Addr).add j = ⟨W.heap.size, j, none⟩ := by unfold Addr.add; split <;> simp_all
  rw [hadd]
  obtain ⟨c0, c1, c2, c3, c4, c5⟩ := six_cells h
  have hlt : j < 6 := (List.getElem?_eq_some_iff.1 hj).1
  rcases (show j = 0 ∨ j = 1 ∨ j = 2 ∨ j = 3 ∨ j = 4 ∨ j = 5 by omega) with rfl | rfl | rfl | rfl | rfl | rfl
  · exact c0.trans hj
  · exact c1.trans hj
  · exact c2.trans hj
  · exact c3.trans hj
  · exact c4.trans hj
  · exact c5.trans hj
theorem rowF_set6 {cur : Array Value} (hs : cur.size = cap * 6) (hle : n ≤ cap) (hc : ∀ j, j < n → ∀ i, i < 6 → cur[j * 6 + i]? = (f j).cel[i]?) {x : KB} (hm : m < cap) :
    ∀ j, j < n ∨ j = m → ∀ i, i < 6 → ((cur.toList.take (m * 6) ++ x.cel ++ cur.toList.drop (m * 6 + 6)).toArray)[j * 6 + i]? = (updK f m x j).cel[i]? := by
  intro j hj i hi
  have hl : cur.toList.length = cap * 6 := by simpa using hs
  have ht : (cur.toList.take (m * 6)).length = m * 6 := by rw [List.length_take, hl]; omega
  simp only [List.getElem?_toArray, List.append_assoc]
  by_cases e : j = m
  · subst e
    rw [updK_same, List.getElem?_append_right (by omega), ht, show j * 6 + i - j * 6 = i by omega, List.getElem?_append_left (by rw [KB.cel_len]; exact hi)]
  · rw [updK_ne e]
    have hj' : j < n := by omega
    rw [← hc j hj' i hi]
    rcases Nat.lt_or_ge j m with h1 | h1
    · rw [List.getElem?_append_left (by omega), List.getElem?_take_of_lt (by omega)]; simp
    · rw [List.getElem?_append_right (by omega), ht, List.getElem?_append_right (by rw [KB.cel_len]; omega), KB.cel_len, List.getElem?_drop]
      rw [show m * 6 + 6 + (j * 6 + i - m * 6 - 6) = j * 6 + i by omega]
      simp
theorem wpList_append_kb {w2 : World} (h : RowF w2 g cap n f) (hm : m < n) (x : KB)
    {ops : Array Oper} {rest : List Oper} {o : Oper} {a : Act} {Q : Exit → Act → World → Prop} (hgd : o.guard = none) (s y : Operand)
    (ho : o.op = .call { callee := .builtin .append, args := #[s, y], argTypes := #[37, 37] })
    (hs : a.eval s = .slice (some ⟨g, 0, none⟩) m cap) (hy : a.eval y = .slice (some ⟨w2.heap.size, 0, none⟩) 1 1)
    (hk : ∀ w', RowF w' g cap n (updK f m x) → w2.grownBy w' (some g) → wpList Tryz.prog ops Q rest (a.put o.dst (.slice (some ⟨g, 0, none⟩) (m + 1) cap)) w') :
    wpList Tryz.prog ops Q (o :: rest) a (w2.alloc (.cells #[.int .u64 (x.b.off : Nat), .int .u64 (x.b.s : Nat), .bool x.b.u, .int .i64 x.b.o, .int .u64 (x.b.n : Nat), .slice x.a x.m x.c] 90)) := by
  obtain ⟨i0, hi, hz0, hz1, hz2⟩ := info_parts info_kb
  have hga := World.grownBy_alloc w2 (.cells #[.int .u64 (x.b.off : Nat), .int .u64 (x.b.s : Nat), .bool x.b.u, .int .i64 x.b.o, .int .u64 (x.b.n : Nat), .slice x.a x.m x.c] 90) none
  have h' := h.later hga
  obtain ⟨cur, h1, h2, h3⟩ := h'.ex
  have hle := h.le
  have hr := run_append_room (P := Tryz.prog) _ 37 o.type 90 i0 Tryz.underlying37 hi g m cap cur h1 ⟨w2.heap.size, 0, none⟩ 1 1 x.cel (by rw [hz1]; rfl) (cells_lit w2 x) x.cel_one (by omega) (by rw [hz1, KB.cel_len, h2]; omega)
  refine Lib.wpList_append_run _ hgd s y _ _ ho _ _ hs hy _ _ hr ?_
  rw [hz1, KB.cel_len]
  have hrow := setRow_heap _ g cur (cur.toList.take (m * 6) ++ x.cel ++ cur.toList.drop (m * 6 + 6)).toArray _ _ h1
  refine hk _ ⟨⟨_, hrow, ?_, fun j hj i hi => rowF_set6 h2 hle h3 (by omega) j (.inl hj) i hi⟩, hle, h.cap⟩ ?_
  · have hl : cur.toList.length = cap * 6 := by simpa using h2
    simp only [List.size_toArray, List.length_append, List.length_take, List.length_drop, KB.cel_len, hl]
    omega
  · refine grown_trans (grown_any hga _) ⟨rfl, rfl, rfl, by simp [World.setRow], fun k hk hne => setRow_other _ _ _ _ (fun e => hne (by rw [e]))⟩
end
end Go.Proofs.YtmcnpenihoaajaaGreat
namespace Go.Proofs.YtmcnpenihoaajaaGreat
open Go.RowKit
set_option maxRecDepth 100000
section
variable {w w' : World} {g cap n p h m : Nat} {f : Nat → KB}
def bsF (f : Nat → KB) (n : Nat) : List Blk := (List.range n).map fun j => (f j).b
theorem bsF_at {j : Nat} (hj : j < n) : (bsF f n).getD j default = (f j).b := by
  unfold bsF
  rw [List.getD_eq_getElem?_getD, List.getElem?_map, List.getElem?_range hj]
  rfl
end
end Go.Proofs.YtmcnpenihoaajaaGreat
namespace Go.Proofs.YtmcnpenihoaajaaGreat
open Go.RowKit
set_option maxRecDepth 100000
def cellsKX (X : List KB) : List Value := X.flatMap KB.cel
theorem cellsK_len (X : List KB) : (cellsKX X).length = X.length * 6 := by
  induction X with
  | nil => rfl
  | cons x r ih =>
    show (x.cel ++ cellsKX r).length = _
    rw [List.length_append, ih, KB.cel_len, List.length_cons]
    omega
theorem cellsK_at (X : List KB) : ∀ (j i : Nat), j < X.length → i < 6 → (cellsKX X)[j * 6 + i]? = (X.getD j default).cel[i]? := by
  induction X with
  | nil => intro j i h; cases h
  | cons x r ih =>
    intro j i h hi
    show (x.cel ++ cellsKX r)[j * 6 + i]? = _
    rcases j with _ | j
    · rw [List.getElem?_append_left (by rw [KB.cel_len]; omega), Nat.zero_mul, Nat.zero_add]; rfl
    · rw [List.getElem?_append_right (by rw [KB.cel_len]; omega), KB.cel_len, show (j + 1) * 6 + i - 6 = j * 6 + i by omega, ih j i (by simpa using h) hi]; rfl
section
variable {w w' : World} {g cap n m p q : Nat} {f : Nat → KB} {X : List KB}
theorem RowF.src (h : RowF w g cap n f) (hX : q + X.length ≤ n) (he : ∀ j, j < X.length → X.getD j default = f (q + j)) : ∀ j v, (cellsKX X)[j]? = some v → w.cell? ⟨g, q * 6 + j, none⟩ = some v := by
  intro j v hj
  have hlt : j < X.length * 6 := by rw [← cellsK_len]; exact (List.getElem?_eq_some_iff.1 hj).1
  have hj2 : j = j / 6 * 6 + j % 6 := by omega
  have h6 : j % 6 < 6 := Nat.mod_lt _ (by decide)
  rw [hj2, cellsK_at X _ _ (by omega) h6, he _ (by omega)] at hj
  rw [show q * 6 + j = (q + j / 6) * 6 + j % 6 by omega, h.cell (by omega) h6]
  exact hj
def cellsF (f : Nat → KB) (n : Nat) : List Value := cellsKX ((List.range n).map f)
theorem rangeK_at {j : Nat} (hj : j < n) : ((List.range n).map f).getD j default = f j := by
  rw [List.getD_eq_getElem?_getD, List.getElem?_map, List.getElem?_range hj]
  rfl
theorem RowF.of_owns {v : Value} (h : w.ownsRow 0 90 6 v n (cellsF f n)) (hn : 0 < n) : ∃ g cap, v = .slice (some ⟨g, 0, none⟩) n cap ∧ RowF w g cap n f := by
  rcases h.2 with ⟨_, h0⟩ | ⟨g, cap, cur, hv, _, hg, h3, h4, h5, h6⟩
  · omega
  · refine ⟨g, cap, hv, ⟨cur, hg, h5, fun j hj i hi => ?_⟩, h3, h4⟩
    have e := cellsK_at ((List.range n).map f) j i (by simpa using hj) hi
    rw [rangeK_at hj] at e
    rw [← e]
    show cur[j * 6 + i]? = (cellsF f n)[j * 6 + i]?
    rw [← h6, List.getElem?_take_of_lt (by omega)]
    simp
def insF (f : Nat → KB) (p : Nat) (x : KB) : Nat → KB := fun j => if j < p then f j else if j = p then x else f (j - 1)
end
end Go.Proofs.YtmcnpenihoaajaaGreat
namespace Go.Proofs.YtmcnpenihoaajaaGreat
open Go.RowKit
set_option maxRecDepth 100000
def KB.free (x : KB) : KB := ⟨freeB x.b.off x.b.s, none, 0, 0, []⟩
section
variable {w w' : World} {P g cap n all i : Nat} {f : Nat → KB} {mv : Value} {lv : Nat → Bool}
theorem StB.turn (h : StB w P g cap n all f mv lv) {f' : Nat → KB} (hr : RowF w' g cap n f') (hg : w.grownBy w' (some g)) (hPg : P ≠ g) : StB w' P g cap n all f' mv lv :=
  ⟨(hg.block _ (lt_of_block h.box) (fun e => hPg (by injection e))).trans h.box, hr⟩
end
end Go.Proofs.YtmcnpenihoaajaaGreat
namespace Go.Proofs.YtmcnpenihoaajaaGreat
open Go.RowKit
set_option maxRecDepth 100000
section
variable {w w' : World} {P g cap n all i : Nat} {f : Nat → KB} {mv : Value} {lv : Nat → Bool}
def kbFree (off s : Nat) : KB := ⟨freeB off s, none, 0, 0, []⟩
end
end Go.Proofs.YtmcnpenihoaajaaGreat
namespace Go.Proofs.YtmcnpenihoaajaaGreat
open Go.RowKit
set_option maxRecDepth 100000
section
variable {w w' : World} {P g cap n all i : Nat} {f : Nat → KB} {mv : Value} {lv : Nat → Bool}
theorem cellsU_at (l : List Nat) (i : Nat) : (cellsU l)[i]? = (l[i]?).map fun x => Value.int .u64 (x : Nat) := by unfold cellsU; rw [List.getElem?_map]
end
end Go.Proofs.YtmcnpenihoaajaaGreat
namespace Go.Proofs.YtmcnpenihoaajaaGreat
open Go.RowKit
set_option maxRecDepth 100000
def KF (w : World) (F : Nat → Prop) (base : Nat) (v : Value) (xs : List Nat) : Prop := OwnW w base v xs ∧ ∀ g, v.ownBlock = some g → ¬ F g
theorem KF.later {w w' : World} {F : Nat → Prop} {base : Nat} {v : Value} {xs : List Nat} (h : KF w F base v xs) (hg : w.grownBy w' none) : KF w' F base v xs := ⟨h.1.later hg, h.2⟩
theorem KF.mono {w : World} {F : Nat → Prop} {base b : Nat} {v : Value} {xs : List Nat} (h : KF w F base v xs) (hb : b ≤ base) : KF w F b v xs := ⟨h.1.mono hb, h.2⟩
theorem KF.new {w w' : World} {F : Nat → Prop} {base : Nat} {v : Value} {xs : List Nat} (hF : ∀ g, F g → g < w.heap.size) (h : OwnW w' w.heap.size v xs) (hb : base ≤ w.heap.size) : KF w' F base v xs := ⟨h.mono hb, fun g e k => by have := hF g k; have := (World.ownsRow.lt h g e).1; omega⟩
section
variable {w w' : World} {F0 : Nat → Prop} {E n a i base m k p owner : Nat} {bs : List Blk} {L : Nat → List Nat} {v : Value} {la : Option Addr}
end
end Go.Proofs.YtmcnpenihoaajaaGreat
namespace Go.Proofs.YtmcnpenihoaajaaGreat
open Go.RowKit
set_option maxRecDepth 100000
def klist (f : Nat → KB) (n : Nat) : List KB := (List.range n).map f
theorem klist_len (f : Nat → KB) (n : Nat) : (klist f n).length = n := by simp [klist]
theorem klist_at {f : Nat → KB} {n j : Nat} (hj : j < n) : (klist f n).getD j default = f j := by
  unfold klist
  rw [List.getD_eq_getElem?_getD, List.getElem?_map, List.getElem?_range hj]
  rfl
theorem klist_get {f : Nat → KB} {n : Nat} (j : Nat) : (klist f n)[j]? = if j < n then some (f j) else none := by
  unfold klist
  rw [List.getElem?_map]
  split
  · rename_i h; rw [List.getElem?_range h]; rfl
  · rename_i h; rw [List.getElem?_eq_none (by simp; omega)]; rfl
theorem klist_b (f : Nat → KB) (n : Nat) : (klist f n).map KB.b = bsF f n := by simp [klist, bsF]
theorem klist_upd {f : Nat → KB} {n i : Nat} (hi : i < n) (x : KB) : klist (updK f i x) n = (klist f n).take i ++ x :: (klist f n).drop (i + 1) := by
  apply List.ext_getElem?
  intro j
  have hl := klist_len f n
  have ht : ((klist f n).take i).length = i := by rw [List.length_take, hl]; omega
  rw [klist_get]
  rcases Nat.lt_trichotomy j i with h | h | h
  · rw [if_pos (by omega), updK_ne (by omega), List.getElem?_append_left (by omega), List.getElem?_take_of_lt h, klist_get, if_pos (by omega)]
  · subst h
    rw [if_pos hi, updK_same, List.getElem?_append_right (by omega), ht, Nat.sub_self]; rfl
  · rw [List.getElem?_append_right (by omega), ht, show j - i = (j - i - 1) + 1 by omega, List.getElem?_cons_succ, List.getElem?_drop, klist_get, show i + 1 + (j - i - 1) = j by omega, updK_ne (by omega)]
theorem klist_ins {f : Nat → KB} {n p : Nat} (hp : p ≤ n) (x : KB) : klist (insF f p x) (n + 1) = (klist f n).take p ++ x :: (klist f n).drop p := by
  apply List.ext_getElem?
  intro j
  have hl := klist_len f n
  have ht : ((klist f n).take p).length = p := by rw [List.length_take, hl]; omega
  rw [klist_get]
  unfold insF
  rcases Nat.lt_trichotomy j p with h | h | h
  · rw [if_pos (by omega), if_pos h, List.getElem?_append_left (by omega), List.getElem?_take_of_lt h, klist_get, if_pos (by omega)]
  · subst h
    rw [if_pos (by omega), if_neg (by omega), if_pos rfl, List.getElem?_append_right (by omega), ht, Nat.sub_self]; rfl
  · rw [List.getElem?_append_right (by omega), ht, show j - p = (j - p - 1) + 1 by omega, List.getElem?_cons_succ, List.getElem?_drop, klist_get, show p + (j - p - 1) = j - 1 by omega]
    by_cases hj : j < n + 1
    · rw [if_pos hj, if_neg (show ¬ j < p by omega), if_neg (show ¬ j = p by omega), if_pos (show j - 1 < n by omega)]
    · rw [if_neg hj, if_neg (show ¬ j - 1 < n by omega)]
theorem klist_put {f : Nat → KB} {n i : Nat} {A C : List KB} {x : KB} (h : klist f n = A ++ x :: C) (hi : A.length = i) (y : KB) : f i = x ∧ i < n ∧ klist (updK f i y) n = A ++ y :: C := by
  have hn : A.length + (C.length + 1) = n := by have := klist_len f n; rw [h] at this; simpa using this
  have hfx : f i = x := by
    have := klist_at (f := f) (n := n) (j := i) (by omega)
    rw [h, ← hi, List.getD_eq_getElem?_getD, List.getElem?_append_right (Nat.le_refl _), Nat.sub_self] at this
    rw [← hi]; exact this.symm
  refine ⟨hfx, by omega, ?_⟩
  rw [klist_upd (by omega), h]
  have e1 : (A ++ x :: C).take i = A := by rw [← hi]; simp
  have e2 : (A ++ x :: C).drop (i + 1) = C := by rw [← hi, List.drop_append]; simp
  rw [e1, e2]
def ChainB (E : Nat) : Nat → List Blk → Prop
  | o, [] => o = E
  | o, b :: r => b.off = o ∧ 0 < b.s ∧ b.s % 16 = 0 ∧ ChainB E (o + b.s) r
theorem ChainB.le {E : Nat} : ∀ {o : Nat} {bs : List Blk}, ChainB E o bs → o + 16 * bs.length ≤ E
  | o, [], h => by unfold ChainB at h; simp; omega
  | o, b :: r, h => by
    obtain ⟨h1, h2, h3, h4⟩ := h
    have := h4.le
    simp only [List.length_cons]
    omega
theorem ChainB.mem {E : Nat} : ∀ {o : Nat} {bs : List Blk}, ChainB E o bs → o % 16 = 0 → ∀ b ∈ bs, b.off % 16 = 0 ∧ o ≤ b.off ∧ b.off + b.s ≤ E ∧ 0 < b.s ∧ b.s % 16 = 0
  | o, [], h, ho => fun b hb => by cases hb
  | o, b :: r, h, ho => fun c hc => by
    obtain ⟨h1, h2, h3, h4⟩ := h
    rcases List.mem_cons.1 hc with rfl | hc
    · have := h4.le
      refine ⟨by omega, by omega, by omega, h2, h3⟩
    · have := h4.mem (by omega) c hc
      omega
theorem ChainB.app {E : Nat} : ∀ {o : Nat} {A C : List Blk}, ChainB E o (A ++ C) ↔ ∃ m, ChainB m o A ∧ ChainB E m C
  | o, [], C => ⟨fun h => ⟨o, rfl, h⟩, fun ⟨m, h1, h2⟩ => by unfold ChainB at h1; subst h1; exact h2⟩
  | o, b :: r, C => by
    constructor
    · rintro ⟨h1, h2, h3, h4⟩
      obtain ⟨m, h5, h6⟩ := ChainB.app.1 h4
      exact ⟨m, ⟨h1, h2, h3, h5⟩, h6⟩
    · rintro ⟨m, ⟨h1, h2, h3, h5⟩, h6⟩
      exact ⟨h1, h2, h3, ChainB.app.2 ⟨m, h5, h6⟩⟩
theorem ChainB.up {E : Nat} : ∀ {o : Nat} {bs : List Blk}, ChainB E o bs → bs.Pairwise fun x y => x.off < y.off
  | o, [], h => List.Pairwise.nil
  | o, b :: r, h => by
    obtain ⟨h1, h2, h3, h4⟩ := h
    refine List.Pairwise.cons (fun c hc => ?_) h4.up
    obtain ⟨A, C, rfl⟩ := List.append_of_mem hc
    obtain ⟨m, h5, h6⟩ := ChainB.app.1 h4
    have := h5.le
    have := h6.1
    omega
end Go.Proofs.YtmcnpenihoaajaaGreat
namespace Go.Proofs.YtmcnpenihoaajaaGreat
open Go.RowKit
set_option maxRecDepth 100000
section
variable {w w' : World} {b o : Nat} {t : TypeId} {cs : Array Value}
theorem cell21 {k : Nat} {v : Value} (h : w.heap[b]? = some (.cells cs t (0, 0))) (hk : cs[k]? = some v) : w.cell? ⟨b, k, none⟩ = some v := by
  simp [World.cell?, h, hk]
end
structure MS where
  E : Nat
  bs : List Blk
  L : Nat → List Nat
  ds : List (Nat × List Nat)
  nm : List (ByteArray × Nat)
  lv : Nat → Bool
def hR (E : Nat) (la : Option Addr) (n c : Nat) (va : Nat → Option Addr) (ln vc : Nat → Nat) : Array Value := #[.int .u64 E, .slice la n c, .slice (va 0) (ln 0) (vc 0), .slice (va 1) (ln 1) (vc 1), .slice (va 2) (ln 2) (vc 2), .slice (va 3) (ln 3) (vc 3), .slice (va 4) (ln 4) (vc 4), .slice (va 5) (ln 5) (vc 5), .slice (va 6) (ln 6) (vc 6), .slice (va 7) (ln 7) (vc 7)]
section
variable {all E : Nat} {la : Option Addr} {n c : Nat} {va : Nat → Option Addr} {ln vc : Nat → Nat} {da : Option Addr} {dn dc : Nat} {na : Option Addr} {nn nc : Nat} {lv : Nat → Bool} {E' : Nat} {la' : Option Addr} {n' c' : Nat} {va' : Nat → Option Addr} {ln' vc' : Nat → Nat}
end
section
variable {w w' : World} {F : Nat → Prop} {base base' : Nat} {v : Value} {all : Nat} {S : MS}
end
end Go.Proofs.YtmcnpenihoaajaaGreat
namespace Go.Proofs.YtmcnpenihoaajaaGreat
open Go.RowKit
set_option maxRecDepth 100000
structure BkOk (b : Blk) : Prop where
  sz : 48 ≤ b.s
  us : b.u = true → b.n + 40 ≤ b.s ∧ 0 ≤ b.o ∧ b.o ≤ 8
  fr : b.u = false → b = freeB b.off b.s
theorem freeB_ok {off s : Nat} (h : 48 ≤ s) : BkOk (freeB off s) := ⟨h, fun hu => (by cases hu), fun _ => rfl⟩
def usL (bs : List Blk) : List Blk := bs.filter fun b => b.u
def LsU (U : List Blk) (L : Nat → List Nat) : Prop := ∀ c, c < 8 → (L c).Nodup ∧ ∀ x, x ∈ L c ↔ ∃ b ∈ U, b.off = x ∧ b.o = (c : Int) + 1
structure HQ (E : Nat) (bs : List Blk) (L : Nat → List Nat) : Prop where
  ch : ChainB E 3776 bs
  top : E ≤ 4800
  is : ∀ b ∈ bs, BkOk b
  ls : LsU (usL bs) L
structure HS (E : Nat) (bs : List Blk) (L : Nat → List Nat) : Prop where
  q : HQ E bs L
  mg : Mg bs
section
variable {E o p i n : Nat} {bs cs A C U : List Blk} {b b' : Blk} {L : Nat → List Nat}
theorem mem_us : b ∈ usL bs ↔ b ∈ bs ∧ b.u = true := by unfold usL; rw [List.mem_filter]
theorem usL_app (A C : List Blk) : usL (A ++ C) = usL A ++ usL C := List.filter_append _ _
theorem usL_yes (C : List Blk) (h : b.u = true) : usL (b :: C) = b :: usL C := by unfold usL; rw [List.filter_cons, if_pos h]
theorem usL_no (C : List Blk) (h : b.u = false) : usL (b :: C) = usL C := by unfold usL; rw [List.filter_cons, if_neg (by rw [h]; decide)]
theorem usL_mid (h : b.u = true) : usL (A ++ b :: C) = usL A ++ b :: usL C := by rw [usL_app, usL_yes _ h]
theorem usL_out (h : b.u = false) : usL (A ++ b :: C) = usL A ++ usL C := by rw [usL_app, usL_no _ h]
theorem up_amid (h : (A ++ b :: C).Pairwise fun x y => x.off < y.off) : (∀ x ∈ A, x.off < b.off) ∧ ∀ x ∈ C, b.off < x.off := by
  obtain ⟨h1, h2, h3⟩ := List.pairwise_append.1 h
  exact ⟨fun x hx => h3 x hx b (by simp), (List.pairwise_cons.1 h2).1⟩
theorem chain_amid (h : ChainB E 3776 (A ++ b :: C)) : (∀ x ∈ A, x.off + x.s ≤ b.off) ∧ (∀ x ∈ C, b.off + b.s ≤ x.off) ∧ ChainB b.off 3776 A ∧ ChainB E (b.off + b.s) C ∧ b.off % 16 = 0 ∧ 3776 ≤ b.off ∧ b.off + b.s ≤ E ∧ 0 < b.s ∧ b.s % 16 = 0 := by
  obtain ⟨k1, k2, k3, k4, k5⟩ := h.mem (by decide) b (by simp)
  obtain ⟨m, h1, h2⟩ := ChainB.app.1 h
  obtain ⟨e1, e2, e3, e4⟩ := h2
  subst e1
  exact ⟨fun x hx => (h1.mem (by decide) x hx).2.2.1, fun x hx => (e4.mem (by omega) x hx).2.1, h1, e4, k1, k2, k3, k4, k5⟩
theorem ChainB.swap (h : ChainB E o (A ++ b :: C)) (h1 : b'.off = b.off) (h2 : b'.s = b.s) : ChainB E o (A ++ b' :: C) := by
  obtain ⟨m, k1, k2⟩ := ChainB.app.1 h
  refine ChainB.app.2 ⟨m, k1, ?_⟩
  obtain ⟨e1, e2, e3, e4⟩ := k2
  exact ⟨h1.trans e1, by rw [h2]; exact e2, by rw [h2]; exact e3, by rw [h2]; exact e4⟩
theorem HQ.mem (h : HQ E bs L) (hb : b ∈ bs) : b.off % 16 = 0 ∧ 3776 ≤ b.off ∧ b.off + b.s ≤ E ∧ 0 < b.s ∧ b.s % 16 = 0 := h.ch.mem (by decide) b hb
theorem HQ.one (h : HQ E bs L) (hb : b ∈ bs) (hb' : b' ∈ bs) (e : b.off = b'.off) : b = b' := by
  obtain ⟨A, C, rfl⟩ := List.append_of_mem hb
  obtain ⟨h1, h2⟩ := up_amid h.ch.up
  rcases List.mem_append.1 hb' with k | k
  · have := h1 _ k; omega
  · rcases List.mem_cons.1 k with k | k
    · exact k.symm
    · have := h2 _ k; omega
theorem need_48 (n : Nat) : needOf n % 16 = 0 ∧ 48 ≤ needOf n ∧ n + 40 ≤ needOf n := by
  unfold needOf
  split <;> omega
theorem LsU.del (h : LsU (A ++ b :: C) L) (hn : ∀ x ∈ A ++ C, x.off ≠ b.off) (ho : 0 ≤ b.o) : LsU (A ++ C) (lstB L b) := by
  intro c hc
  obtain ⟨h1, h2⟩ := h c hc
  have key : ∀ x, x ∈ lstB L b c ↔ x ∈ L c ∧ x ≠ b.off := by
    intro x
    have hx : x ∈ L c → x = b.off → b.o = (c : Int) + 1 := by
      intro k e
      obtain ⟨b', hb', e1, e2⟩ := (h2 x).1 k
      rcases List.mem_append.1 hb' with q | q
      · exact absurd (e1.trans e) (hn b' (by simp [q]))
      · rcases List.mem_cons.1 q with q | q
        · rw [← q]; exact e2
        · exact absurd (e1.trans e) (hn b' (by simp [q]))
    unfold lstB
    split
    · rename_i h0
      constructor
      · intro k
        refine ⟨k, fun e => ?_⟩
        have := hx k e
        omega
      · exact fun k => k.1
    · rename_i h0
      by_cases hcc : c = b.o.toNat - 1
      · subst hcc
        rw [setL_same, List.mem_filter]
        simp
      · rw [setL_other _ hcc]
        constructor
        · intro k
          refine ⟨k, fun e => ?_⟩
          have := hx k e
          omega
        · exact fun k => k.1
  refine ⟨?_, fun x => ?_⟩
  · unfold lstB
    split
    · exact h1
    · by_cases hcc : c = b.o.toNat - 1
      · subst hcc
        rw [setL_same]; exact h1.sublist List.filter_sublist
      · rw [setL_other _ hcc]; exact h1
  · rw [key, h2]
    constructor
    · rintro ⟨⟨b', hb', e1, e2⟩, hne⟩
      refine ⟨b', ?_, e1, e2⟩
      rcases List.mem_append.1 hb' with q | q
      · simp [q]
      · rcases List.mem_cons.1 q with q | q
        · rw [q] at e1; exact absurd e1.symm hne
        · simp [q]
    · rintro ⟨b', hb', e1, e2⟩
      refine ⟨⟨b', ?_, e1, e2⟩, fun e => hn b' hb' (e1.trans e)⟩
      rcases List.mem_append.1 hb' with q | q <;> simp [q]
theorem LsU.add (h : LsU (A ++ C) L) (hn : ∀ x ∈ A ++ C, x.off ≠ b.off) {ow : Nat} (ho : b.o = (ow : Int)) : LsU (A ++ b :: C) (takeL L ow b.off) := by
  intro c hc
  obtain ⟨h1, h2⟩ := h c hc
  have hni : b.off ∉ L c := fun k => by
    obtain ⟨b', hb', e1, e2⟩ := (h2 _).1 k
    exact hn b' hb' e1
  have key : takeL L ow b.off c = if ow = c + 1 then b.off :: L c else L c := by
    unfold takeL
    by_cases h0 : ow = 0
    · rw [if_pos h0, if_neg (by omega)]
    · rw [if_neg h0]
      by_cases hcc : c = ow - 1
      · subst hcc
        rw [setL_same, if_pos (by omega)]
      · rw [setL_other _ hcc, if_neg (by omega)]
  rw [key]
  have hin : ∀ x : Blk, x ∈ A ++ b :: C ↔ x = b ∨ x ∈ A ++ C := fun x => by
    simp only [List.mem_append, List.mem_cons]
    constructor
    · rintro (h | h | h)
      · exact .inr (.inl h)
      · exact .inl h
      · exact .inr (.inr h)
    · rintro (h | h | h)
      · exact .inr (.inl h)
      · exact .inl h
      · exact .inr (.inr h)
  by_cases hcc : ow = c + 1
  · rw [if_pos hcc]
    refine ⟨List.nodup_cons.2 ⟨hni, h1⟩, fun x => ?_⟩
    rw [List.mem_cons, h2]
    constructor
    · rintro (e | ⟨b', hb', e1, e2⟩)
      · exact ⟨b, (hin b).2 (.inl rfl), e.symm, by omega⟩
      · exact ⟨b', (hin b').2 (.inr hb'), e1, e2⟩
    · rintro ⟨b', hb', e1, e2⟩
      rcases (hin b').1 hb' with q | q
      · rw [q] at e1; exact .inl e1.symm
      · exact .inr ⟨b', q, e1, e2⟩
  · rw [if_neg hcc]
    refine ⟨h1, fun x => ?_⟩
    rw [h2]
    constructor
    · rintro ⟨b', hb', e1, e2⟩
      exact ⟨b', (hin b').2 (.inr hb'), e1, e2⟩
    · rintro ⟨b', hb', e1, e2⟩
      rcases (hin b').1 hb' with q | q
      · rw [q] at e2; omega
      · exact ⟨b', q, e1, e2⟩
theorem LsU.same (h : LsU (A ++ b :: C) L) (e1 : b'.off = b.off) (e2 : b'.o = b.o) : LsU (A ++ b' :: C) L := by
  intro c hc
  obtain ⟨h1, h2⟩ := h c hc
  refine ⟨h1, fun x => ?_⟩
  rw [h2]
  constructor
  · rintro ⟨y, hy, k1, k2⟩
    rcases List.mem_append.1 hy with q | q
    · exact ⟨y, by simp [q], k1, k2⟩
    · rcases List.mem_cons.1 q with q | q
      · rw [q] at k1 k2; exact ⟨b', by simp, e1.trans k1, e2.trans k2⟩
      · exact ⟨y, by simp [q], k1, k2⟩
  · rintro ⟨y, hy, k1, k2⟩
    rcases List.mem_append.1 hy with q | q
    · exact ⟨y, by simp [q], k1, k2⟩
    · rcases List.mem_cons.1 q with q | q
      · rw [q] at k1 k2; exact ⟨b, by simp, e1.symm.trans k1, e2.symm.trans k2⟩
      · exact ⟨y, by simp [q], k1, k2⟩
theorem HQ.apart (h : HQ E (A ++ b :: C) L) : ∀ x ∈ usL A ++ usL C, x.off ≠ b.off := by
  obtain ⟨h1, h2⟩ := up_amid h.ch.up
  intro x hx
  rcases List.mem_append.1 hx with q | q
  · have := h1 x (mem_us.1 q).1; omega
  · have := h2 x (mem_us.1 q).1; omega
theorem HQ.sub (h : HQ E (A ++ b :: C) L) (hu : b.u = true) (e1 : b'.off = b.off) (e2 : b'.s = b.s) (hu' : b'.u = true) (hn : b'.n + 40 ≤ b.s) {ow : Nat} (ho : b'.o = (ow : Int)) (h8 : ow ≤ 8) : HQ E (A ++ b' :: C) (takeL (lstB L b) ow b.off) := by
  have h1 := h.is b (by simp)
  refine ⟨h.ch.swap e1 e2, h.top, fun x hx => ?_, ?_⟩
  · rcases List.mem_append.1 hx with q | q
    · exact h.is x (by simp [q])
    · rcases List.mem_cons.1 q with q | q
      · rw [q]; exact ⟨by rw [e2]; exact h1.sz, fun _ => ⟨by rw [e2]; exact hn, by omega, by omega⟩, fun k => (by rw [hu'] at k; cases k)⟩
      · exact h.is x (by simp [q])
  · have h2 := h.ls
    rw [usL_mid hu] at h2
    rw [usL_mid hu', ← e1]
    exact (h2.del h.apart (h1.us hu).2.1).add (fun x hx => by rw [e1]; exact h.apart x hx) ho
end
end Go.Proofs.YtmcnpenihoaajaaGreat
namespace Go.Proofs.YtmcnpenihoaajaaGreat
open Go.RowKit
set_option maxRecDepth 100000
def mtP (bs : List Blk) (m a : Nat) : Nat := if fitErr bs m a = 0 then tkP bs m a else 0
theorem fit_zero {bs : List Blk} {m a : Nat} (h : fitErr bs m a = 0) : alignP a ∧ m ≤ 18446744073709551560 ∧ ∃ i, fitM bs m a = some i := by
  unfold fitErr at h
  split at h
  · cases h
  · rename_i h1
    split at h
    · cases h
    · rename_i h2
      split at h
      · cases h
      · rename_i h3
        exact ⟨Classical.not_not.1 h1, by omega, Option.ne_none_iff_exists'.1 h3⟩
section
variable {w w' W : World} {F : Nat → Prop} {base all K : Nat} {v : Value} {S : MS}
end
end Go.Proofs.YtmcnpenihoaajaaGreat
