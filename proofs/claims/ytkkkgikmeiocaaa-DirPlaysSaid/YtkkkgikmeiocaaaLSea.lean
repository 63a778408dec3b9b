/-
  Texts of one layer, one behind the other: memory, contracts of the functions, and what follows of them.
  Conditions: as each theorem says.
-/
import Derived.Test.YtkkkgikmeiocaaaProg
import Derived.WalkKit
import Derived.WalkSpells
import Derived.WalkLawsBesides
import Derived.Handy
import Derived.KernelRfl
import Derived.Below
import Derived.OneCell
import Derived.Laws.MakeOwn
import Derived.Laws.CopyOwn
import Derived.Lib.Hide
import Derived.Laws.BitsAll
import Derived.IntWalk
import Derived.BigGuard
import Derived.RegionTactic
import Derived.ChangeAlike
import Derived.BigRegion
import Derived.LoopTactic
import Derived.Deep.LoopGhost
import Derived.Deep.WholeRow
import Derived.Laws.IdiomCopy
import Derived.Deep.AppendLies
import Derived.Deep.Onto
import Derived.Maps.OwnSet
import Derived.Maps.AppendAt
set_option linter.unusedVariables false
set_option linter.unusedSimpArgs false
namespace Go.Proofs.Ytkkkgikmeiocaaa
open Go.RowKit
theorem ret_int' {k : IntKind} {a b : Int} (h : a = b) : Ending.returned (.int k a) = .returned (.int k b) := by rw [h]
def rowOf (f : Nat → Nat) (n : Nat) : Array Value := (Array.range n).map fun j => .int .u8 (f j : Nat)
theorem size_rowOf (f : Nat → Nat) (n : Nat) : (rowOf f n).size = n := by simp [rowOf]
theorem rowOf_at (f : Nat → Nat) (n j : Nat) (h : j < n) : (rowOf f n)[j]? = some (.int .u8 (f j : Nat)) := by
  simp [rowOf, Array.getElem?_range, h]
theorem rowOf_congr {f g : Nat → Nat} {n : Nat} (h : ∀ j, j < n → f j = g j) : rowOf f n = rowOf g n := by
  apply Array.ext
  · simp [size_rowOf]
  · intro i h1 h2
    rw [size_rowOf] at h1
    simp [rowOf, h i h1]
theorem rowOf_set (f : Nat → Nat) (n i b : Nat) : (rowOf f n).setIfInBounds i (.int .u8 (b : Nat)) = rowOf (fun j => if j = i then b else f j) n := by
  apply Array.ext
  · simp [size_rowOf]
  · intro j h1 h2
    rw [size_rowOf] at h2
    rw [Array.getElem_setIfInBounds (by simpa [size_rowOf] using h2)]
    by_cases e : i = j
    · subst e; simp [rowOf]
    · have e' : ¬ j = i := fun h => e h.symm
      simp [rowOf, e, e']
theorem made_row (n : Nat) : madeCells (#[.int .u8 0] : Array Value) n = rowOf (fun _ => 0) n := by
  apply Array.ext
  · simp [size_madeCells, size_rowOf]
  · intro j h1 h2
    simp [madeCells, rowOf, Nat.mod_one]
def wb (x i : Nat) : Nat := x / 256 ^ i % 256
theorem wb_lt (x i : Nat) : wb x i < 256 := Nat.mod_lt _ (by decide)
theorem mod_step (x k : Nat) : x % 256 ^ (k + 1) = x % 256 ^ k + wb x k * 256 ^ k := by
  unfold wb
  rw [Nat.pow_succ, Nat.mod_mul, Nat.mul_comm (256 ^ k)]
def byteN (ws : List Nat) (j : Nat) : Nat := wb (ws.getD (j / 8) 0) (j % 8)
def stands (ws : List Nat) (off : Nat) : Prop := off % 8 = 0 ∧ off < 8 * ws.length
instance (ws : List Nat) (off : Nat) : Decidable (stands ws off) := by unfold stands; infer_instance
def put (ws : List Nat) (off v : Nat) : List Nat := if stands ws off then ws.set (off / 8) v else ws
theorem put_len (ws : List Nat) (off v : Nat) : (put ws off v).length = ws.length := by unfold put; split <;> simp
theorem put_lt {ws : List Nat} {off v : Nat} (h : ∀ x ∈ ws, x < 18446744073709551616) (hv : v < 18446744073709551616) : ∀ x ∈ put ws off v, x < 18446744073709551616 := by
  unfold put
  split
  · intro x hx
    rcases List.mem_or_eq_of_mem_set hx with h' | h'
    · exact h x h'
    · omega
  · exact h
theorem getD_lt {ws : List Nat} (h : ∀ x ∈ ws, x < 18446744073709551616) (i : Nat) : ws.getD i 0 < 18446744073709551616 := by
  rw [List.getD_eq_getElem?_getD]
  rcases e : ws[i]? with _ | x
  · simp
  · exact h x (List.mem_of_getElem? e)
theorem all_eight (x : Nat) (h : x < 18446744073709551616) : x % 256 ^ 8 = x := by
  apply Nat.mod_eq_of_lt
  have : (256 : Nat) ^ 8 = 18446744073709551616 := by decide
  omega
theorem byteN_put (ws : List Nat) (off v j : Nat) (h : stands ws off) (hj : j < 8 * ws.length) :
    byteN (put ws off v) j = if off ≤ j ∧ j < off + 8 then wb v (j - off) else byteN ws j := by
  obtain ⟨h1, h2⟩ := h
  unfold put
  rw [if_pos ⟨h1, h2⟩]
  unfold byteN
  have hi : j / 8 < ws.length := by omega
  by_cases e : off ≤ j ∧ j < off + 8
  · rw [if_pos e]
    have e1 : j / 8 = off / 8 := by omega
    have e2 : j % 8 = j - off := by omega
    rw [e1] at hi
    rw [e1, e2, List.getD_eq_getElem?_getD, List.getElem?_set_self hi]; rfl
  · rw [if_neg e]
    have e1 : off / 8 ≠ j / 8 := by omega
    rw [List.getD_eq_getElem?_getD, List.getD_eq_getElem?_getD, List.getElem?_set_ne e1]
theorem heap_setCell_same {w : World} {b o : Nat} {c : Array Value} {t : TypeId} {fr : Nat × Nat} (h : w.heap[b]? = some (.cells c t fr)) (v : Value) :
    (w.setCell ⟨b, o, none⟩ v).heap[b]? = some (.cells (c.setIfInBounds o v) t fr) := by
  have hb := lt_of_block h
  simp [World.setCell, Array.getElem?_modify, h]
theorem cell_of_row {w : World} {b n : Nat} {f : Nat → Nat} {t : TypeId} {fr : Nat × Nat} (h : w.heap[b]? = some (.cells (rowOf f n) t fr)) (j : Nat) (hj : j < n) : w.cell? ⟨b, j, none⟩ = some (.int .u8 (f j : Nat)) := by
  simp [World.cell?, h, rowOf_at f n j hj]
theorem free_of_row {w : World} {b : Nat} {c : Array Value} {t : TypeId} (h : w.heap[b]? = some (.cells c t (0, 0))) (o : Nat) : w.frozen? ⟨b, o, none⟩ = false := by
  simp [World.frozen?, h]
theorem heap_alloc_new' (w : World) (o : Obj) : (w.alloc o).heap[w.heap.size]? = some o := by
  show (w.heap.push o)[w.heap.size]? = _
  simp
theorem grown_refl (w : World) (row : Option Nat) : w.grownBy w row := ⟨rfl, rfl, rfl, Nat.le_refl _, fun _ _ _ => rfl⟩
theorem grown_trans {a b c : World} {row : Option Nat} (h : a.grownBy b row) (k : b.grownBy c row) : a.grownBy c row :=
  ⟨k.os.trans h.os, k.tape.trans h.tape, k.output.trans h.output, Nat.le_trans h.size k.size, fun i hi hn => (k.block i (Nat.lt_of_lt_of_le hi h.size) hn).trans (h.block i hi hn)⟩
theorem grown_any {a b : World} (h : a.grownBy b none) (row : Option Nat) : a.grownBy b row :=
  ⟨h.os, h.tape, h.output, h.size, fun i hi _ => h.block i hi (by simp)⟩
theorem grown_set (w : World) (b o : Nat) (v : Value) : w.grownBy (w.setCell ⟨b, o, none⟩ v) (some b) :=
  ⟨rfl, rfl, rfl, by simp [World.setCell], fun i hi hn => Below.heap_setCell _ _ _ _ (fun e => hn (congrArg some e))⟩
theorem grown_drew {a b : World} {row : Option Nat} (h : a.grownBy b row) : a.grownBy b.drew row := ⟨h.os, h.tape, h.output, h.size, h.block⟩
theorem grown_new {a b : World} {k : Nat} (h : a.grownBy b (some k)) (hk : a.heap.size ≤ k) : a.grownBy b none :=
  ⟨h.os, h.tape, h.output, h.size, fun i hi _ => h.block i hi (by intro e; injection e; omega)⟩
theorem grown_below {a b : World} (h : a.grownBy b none) : Below a.heap.size a b := ⟨h.os, h.tape, h.output, h.size, fun i hi => h.block i hi (by simp)⟩
theorem below_grown {a b : World} (h : Below a.heap.size a b) : a.grownBy b none := ⟨h.os, h.tape, h.output, h.size, fun i hi _ => h.block i hi⟩
theorem grown_step {a b c : World} {row row' : Option Nat} (h : a.grownBy b row) (k : b.grownBy c row') (hr : ∀ i, row' = some i → a.heap.size ≤ i ∨ row = some i) : a.grownBy c row :=
  ⟨k.os.trans h.os, k.tape.trans h.tape, k.output.trans h.output, Nat.le_trans h.size k.size, fun i hi hn =>
    (k.block i (Nat.lt_of_lt_of_le hi h.size) (by
      intro e
      rcases hr i e.symm with h' | h'
      · omega
      · exact hn h'.symm)).trans (h.block i hi hn)⟩
structure IsSeg (w : World) (B D : Nat) (ws : List Nat) : Prop where
  head : w.heap[B]? = some (.cells #[.slice (some ⟨D, 0, none⟩) (8 * ws.length) (8 * ws.length)] 103 (0, 0))
  data : w.heap[D]? = some (.cells (rowOf (byteN ws) (8 * ws.length)) 5 (0, 0))
  ne : B ≠ D
  words : ∀ x ∈ ws, x < 18446744073709551616
  some1 : 1 ≤ ws.length
  most : ws.length ≤ 131072
section
variable {w w' : World} {B D : Nat} {ws : List Nat}
theorem IsSeg.hd (h : IsSeg w B D ws) : w.cell? ⟨B, 0, none⟩ = some (.slice (some ⟨D, 0, none⟩) (8 * ws.length) (8 * ws.length)) := by simp [World.cell?, h.head]
theorem IsSeg.at_ (h : IsSeg w B D ws) (j : Nat) (hj : j < 8 * ws.length) : w.cell? ⟨D, j, none⟩ = some (.int .u8 (byteN ws j : Nat)) := cell_of_row h.data j hj
theorem IsSeg.free (h : IsSeg w B D ws) (j : Nat) : w.frozen? ⟨D, j, none⟩ = false := free_of_row h.data j
theorem IsSeg.ltB (h : IsSeg w B D ws) : B < w.heap.size := lt_of_block h.head
theorem IsSeg.ltD (h : IsSeg w B D ws) : D < w.heap.size := lt_of_block h.data
theorem IsSeg.kept (h : IsSeg w B D ws) {row : Option Nat} (hg : w.grownBy w' row) (hB : row ≠ some B) (hD : row ≠ some D) : IsSeg w' B D ws where
  head := (hg.block B h.ltB hB.symm).trans h.head
  data := (hg.block D h.ltD hD.symm).trans h.data
  ne := h.ne
  words := h.words
  some1 := h.some1
  most := h.most
theorem IsSeg.later (h : IsSeg w B D ws) (hg : w.grownBy w' none) : IsSeg w' B D ws := h.kept hg (by simp) (by simp)
end
def SegAt (w : World) (v : Value) (ws : List Nat) : Prop := (v = .pointer none ∧ ws = []) ∨ ∃ B D, v = .pointer (some ⟨B, 0, none⟩) ∧ IsSeg w B D ws
end Go.Proofs.Ytkkkgikmeiocaaa
namespace Go.Proofs.Ytkkkgikmeiocaaa
open Go.RowKit
theorem or_join' (x b i : Nat) (hi : i < 8) (hb : b < 256) (hx : x < 256 ^ i) : x ||| b * 2 ^ (8 * i) = x + b * 256 ^ i := by
  have e : (2 : Nat) ^ (8 * i) = 256 ^ i := by rw [Nat.pow_mul]
  rw [e, Nat.or_comm]
  have h := nat_join (8 * i) (b * 256 ^ i) x (by rw [e]; exact Nat.mul_mod_left _ _) (by rw [e]; exact hx)
  rw [h, Nat.add_comm]
theorem pow_le' (i : Nat) (hi : i < 8) : 256 ^ i ≤ 72057594037927936 := by
  have : (256 : Nat) ^ i ≤ 256 ^ 7 := Nat.pow_le_pow_right (by decide) (by omega)
  have e : (256 : Nat) ^ 7 = 72057594037927936 := by decide
  omega
theorem lay_num' (x b i : Nat) (hi : i < 8) (hb : b < 256) (hx : x < 256 ^ i) :
    bits .or .u64 (x : Int) (IntKind.u64.wrap ((b : Int) * 2 ^ (8 * i))) = ((x + b * 256 ^ i : Nat) : Int) := by
  have hp := pow_le' i hi
  have hmul : b * 256 ^ i ≤ 255 * 256 ^ i := Nat.mul_le_mul_right _ (by omega)
  have e : (b : Int) * 2 ^ (8 * i) = ((b * 2 ^ (8 * i) : Nat) : Int) := by simp
  have e2 : (2 : Nat) ^ (8 * i) = 256 ^ i := by rw [Nat.pow_mul]
  rw [e, IntWalk.u64_in _ (by rw [e2]; omega), u64_or_nat x _ (by omega) (by rw [e2]; omega), or_join' x b i hi hb hx]
theorem size_any {w : World} {v : Value} {ws : List Nat} (h : SegAt w v ws) :
    Calls Try.prog 52 #[v] w fun e w' => e = .returned (.int .u64 (8 * ws.length : Nat)) ∧ w = w' := by
  rcases h with ⟨rfl, rfl⟩ | ⟨B, D, rfl, h⟩
  · go_enter Try.func52, Try.ntmps52
    go_wp2
    go_ret
    exact ⟨rfl, rfl⟩
  · have h1 := h.hd
    have h2 := h.most
    go_enter Try.func52, Try.ntmps52
    go_wp2
    go_ret
    exact ⟨ret_int' (by omega), rfl⟩
theorem has_any {w : World} {v : Value} {ws : List Nat} (h : SegAt w v ws) (off : Nat) (ho : off < 18446744073709551616) :
    Calls Try.prog 65 #[v, .int .u64 off] w fun e w' => e = .returned (.bool (decide (stands ws off))) ∧ w = w' := by
  by_cases h8 : (off : Int) % 8 = 0
  · have hd : decide (stands ws off) = decide ((off : Int) < (8 * ws.length : Nat)) := by
      rw [decide_eq_decide]
      unfold stands
      omega
    rw [hd]
    go_enter Try.func65, Try.ntmps65
    go_wp2_with (go_at_call 52; refine (size_any h).mono ?_; rintro e w' ⟨rfl, rfl⟩)
    go_ret
    exact ⟨rfl, rfl⟩
  · have hd : decide (stands ws off) = false := decide_eq_false (by unfold stands; omega)
    rw [hd]
    go_enter Try.func65, Try.ntmps65
    go_wp2
    go_ret
    exact ⟨rfl, rfl⟩
def low (x k : Nat) : Nat := x % 256 ^ k
theorem low_step (x k : Nat) : low x (k + 1) = low x k + wb x k * 256 ^ k := mod_step x k
theorem low_lt (x k : Nat) : low x k < 256 ^ k := Nat.mod_lt _ (Nat.pow_pos (by decide))
theorem low_zero (x : Nat) : low x 0 = 0 := by simp [low, Nat.mod_one]
theorem low_all (x : Nat) (h : x < 18446744073709551616) : low x 8 = x := all_eight x h
theorem load1_at (x i : Nat) (hi : i < 8) (V D o : Nat) (w : World)
    (hV : w.cell? ⟨V, 0, none⟩ = some (.int .u64 (low x i))) (hf : w.frozen? ⟨V, 0, none⟩ = false) (hd : w.cell? ⟨D, o, none⟩ = some (.int .u8 (wb x i))) :
    Calls Try.prog 73 #[.pointer (some ⟨D, o, none⟩), .int .u64 (8 * i : Nat), .pointer (some ⟨V, 0, none⟩)] w fun e w' => e = .returned (.tuple #[]) ∧ (w.setCell ⟨V, 0, none⟩ (.int .u64 (low x (i + 1)))).drew = w' := by
  have hl := lay_num' (low x i) (wb x i) i hi (wb_lt _ _) (low_lt _ _)
  rw [← low_step] at hl
  have hb := wb_lt x i
  go_enter Try.func73, Try.ntmps73
  go_wp2
  go_region
  all_goals go_end0
  all_goals exact ⟨rfl, rfl⟩
end Go.Proofs.Ytkkkgikmeiocaaa
namespace Go.Proofs.Ytkkkgikmeiocaaa
open Go.RowKit
structure LoadRel (w : World) (V x k : Nat) (wr : World) : Prop where
  grown : w.grownBy wr (some V)
  cell : wr.heap[V]? = some (.cells #[.int .u64 (low x k : Nat)] 31 (0, 0))
theorem LoadRel.next {w wr : World} {V x k : Nat} (R : LoadRel w V x k wr) :
    LoadRel w V x (k + 1) (wr.setCell ⟨V, 0, none⟩ (.int .u64 (low x (k + 1) : Nat))).drew where
  grown := grown_drew (grown_trans R.grown (grown_set _ _ _ _))
  cell := one_setCell R.cell
theorem eight_less (off : Nat) : off + 8 - off = 8 := by omega
set_option maxHeartbeats 400000 in
theorem each_load {w : World} {B D V : Nat} {ws : List Nat} (h : IsSeg w B D ws) (off x : Nat) (ho : stands ws off) (hx : ws.getD (off / 8) 0 = x) (hVB : V ≠ B) (hVD : V ≠ D)
    (hV : w.heap[V]? = some (.cells #[.int .u64 0] 31 (0, 0))) :
    Calls Try.prog 66 #[.pointer (some ⟨B, 0, none⟩), .int .u64 off, .func (.func 73) #[] #[.pointer (some ⟨V, 0, none⟩)]] w
      fun e w' => e = .returned (.tuple #[]) ∧ LoadRel w V x 8 w' := by
  have h1 := h.hd
  have h2 := h.most
  have h4 : off % 8 = 0 := ho.1
  have h6 : off + 8 ≤ 8 * ws.length := by have := ho.2; omega
  have H4 := Lib.hid h4
  have H7 := Lib.hid hx
  clear h4 hx
  have R0 : LoadRel w V x 0 w := ⟨grown_refl _ _, by rw [hV, low_zero]; rfl⟩
  go_enter Try.func66, Try.ntmps66
  go_wp2
  simp only [eight_less]
  go_loopw [7, 18] (fun _ i wr => ∃ k : Nat, k ≤ 8 ∧ i = .int .i64 k ∧ LoadRel w V x k wr) (fun _ i _ => 8 - (intOf i).toNat)
  case atStart => exact ⟨0, Nat.zero_le _, rfl, R0⟩
  case round =>
    obtain ⟨k, hk, rfl, R⟩ := hrel
    clear R0 h1
    by_cases hlt : k < 8
    · have hseg : IsSeg wr B D ws := h.kept R.grown (by simpa using hVB) (by simpa using hVD)
      have hb := hseg.at_ (off + k) (by omega)
      have e1 : byteN ws (off + k) = wb x k := by
        have := H4.out
        unfold byteN
        rw [show (off + k) / 8 = off / 8 by omega, show (off + k) % 8 = k by omega, H7.out]
      rw [e1] at hb
      clear e1
      go_wp2_with (go_at_call 73; refine (load1_at x k hlt V D (off + k) _ (cell_of_one R.cell) (free_of_one R.cell) hb).mono ?_; rintro e w' ⟨rfl, rfl⟩)
      go_roundw
      case rel => exact ⟨k + 1, by omega, by go_num, R.next⟩
      case measure => simp [intOf]; omega
    · obtain rfl : k = 8 := by omega
      go_wp2
      go_end0
      exact ⟨rfl, R⟩
def getW (ws : List Nat) (off : Nat) : Nat := if stands ws off then ws.getD (off / 8) 0 else 0
def errW (ws : List Nat) (off : Nat) : Nat := if stands ws off then 0 else 1
theorem getW_lt {ws : List Nat} (h : ∀ x ∈ ws, x < 18446744073709551616) (off : Nat) : getW ws off < 18446744073709551616 := by
  unfold getW
  split
  · exact getD_lt h _
  · omega
theorem SegAt.isSeg {w : World} {v : Value} {ws : List Nat} (h : SegAt w v ws) {off : Nat} (ho : stands ws off) : ∃ B D, v = .pointer (some ⟨B, 0, none⟩) ∧ IsSeg w B D ws := by
  rcases h with ⟨rfl, rfl⟩ | h
  · exact absurd ho.2 (by simp)
  · exact h
theorem load_no {w : World} {v : Value} {ws : List Nat} (h : SegAt w v ws) (off : Nat) (hlt : off < 18446744073709551616) (ho : ¬ stands ws off) :
    Calls Try.prog 64 #[v, .int .u64 off] w fun e w' => e = .returned (.tuple #[.int .u64 0, .int .i64 1]) ∧ w.grownBy w' none := by
  have hd := decide_eq_false ho
  have hc := has_any h off hlt
  rw [hd] at hc
  go_enter Try.func64, Try.ntmps64
  go_wp2_with (go_at_call 65; refine hc.mono ?_; rintro e w' ⟨rfl, rfl⟩)
  go_ret2
  exact ⟨rfl, grown_refl _ _⟩
theorem load_yes {w : World} {v : Value} {ws : List Nat} (h : SegAt w v ws) (off x : Nat) (hlt : off < 18446744073709551616) (ho : stands ws off) (hx : ws.getD (off / 8) 0 = x) :
    Calls Try.prog 64 #[v, .int .u64 off] w fun e w' => e = .returned (.tuple #[.int .u64 x, .int .i64 0]) ∧ w.grownBy w' none := by
  have hd := decide_eq_true ho
  have hc := has_any h off hlt
  rw [hd] at hc
  obtain ⟨B, D, rfl, hs⟩ := h.isSeg ho
  have hs1 : IsSeg (w.alloc (.cells #[.int .u64 0] 31)) B D ws := hs.later (World.grownBy_alloc _ _ _)
  have hx64 : low x 8 = x := low_all x (by rw [← hx]; exact getD_lt hs.words _)
  have H := Lib.hid hx
  have HL := Lib.hid hx64
  clear hx hx64
  go_enter Try.func64, Try.ntmps64
  go_wp2_with (first | (go_at_call 65; refine hc.mono ?_; rintro e w' ⟨rfl, rfl⟩) | (go_at_call 66; refine (each_load hs1 off x ho H.out (Nat.ne_of_gt hs.ltB) (Nat.ne_of_gt hs.ltD) (heap_alloc_new' _ _)).mono ?_; rintro e w1 ⟨rfl, R⟩; have hcell := cell_of_one R.cell))
  go_ret2
  exact ⟨by rw [HL.out]; rfl, grown_new (grown_trans (World.grownBy_alloc _ _ _) R.grown) (Nat.le_refl _)⟩
theorem load_any {w : World} {v : Value} {ws : List Nat} (h : SegAt w v ws) (off : Nat) (hlt : off < 18446744073709551616) :
    Calls Try.prog 64 #[v, .int .u64 off] w fun e w' => e = .returned (.tuple #[.int .u64 (getW ws off : Nat), .int .i64 (errW ws off : Nat)]) ∧ w.grownBy w' none := by
  by_cases ho : stands ws off
  · have := load_yes h off _ hlt ho rfl
    unfold getW errW
    rw [if_pos ho, if_pos ho]
    exact this
  · have := load_no h off hlt ho
    unfold getW errW
    rw [if_neg ho, if_neg ho]
    exact this
end Go.Proofs.Ytkkkgikmeiocaaa
namespace Go.Proofs.Ytkkkgikmeiocaaa
open Go.RowKit
theorem byte_num (v i : Nat) (hi : i < 8) : IntKind.u8.wrap ((v : Int) / 2 ^ (8 * i)) = (wb v i : Nat) := by
  have e : (v : Int) / 2 ^ (8 * i) = ((v / 256 ^ i : Nat) : Int) := by
    have e2 : (2 : Nat) ^ (8 * i) = 256 ^ i := by rw [Nat.pow_mul]
    rw [← e2]
    simp
  rw [e]
  unfold wb
  generalize v / 256 ^ i = q
  rw [IntKind.wrap_u8]
  omega
theorem store1_at (v i : Nat) (hi : i < 8) (hv : v < 18446744073709551616) (V D o : Nat) (w : World) (u : Value)
    (hV : w.cell? ⟨V, 0, none⟩ = some (.int .u64 v)) (hd : w.cell? ⟨D, o, none⟩ = some u) (hf : w.frozen? ⟨D, o, none⟩ = false) :
    Calls Try.prog 67 #[.pointer (some ⟨D, o, none⟩), .int .u64 (8 * i : Nat), .pointer (some ⟨V, 0, none⟩)] w fun e w' => e = .returned (.tuple #[]) ∧ w.setCell ⟨D, o, none⟩ (.int .u8 (wb v i)) = w' := by
  have hl := byte_num v i hi
  go_enter Try.func67, Try.ntmps67
  go_wp2
  go_end0
  exact ⟨rfl, rfl⟩
def mixN (ws : List Nat) (off v k j : Nat) : Nat := if off ≤ j ∧ j < off + k then wb v (j - off) else byteN ws j
theorem mix_zero (ws : List Nat) (off v n : Nat) : rowOf (mixN ws off v 0) n = rowOf (byteN ws) n :=
  rowOf_congr fun j _ => by unfold mixN; rw [if_neg (by omega)]
theorem mix_next (ws : List Nat) (off v k n : Nat) : (rowOf (mixN ws off v k) n).setIfInBounds (off + k) (.int .u8 (wb v k : Nat)) = rowOf (mixN ws off v (k + 1)) n := by
  rw [rowOf_set]
  refine rowOf_congr fun j _ => ?_
  unfold mixN
  by_cases e : j = off + k
  · subst e
    rw [if_pos rfl, if_pos (by omega), show off + k - off = k by omega]
  · rw [if_neg e]
    by_cases e2 : off ≤ j ∧ j < off + k
    · rw [if_pos e2, if_pos (by omega)]
    · rw [if_neg e2, if_neg (by omega)]
theorem mix_all (ws : List Nat) (off v : Nat) (h : stands ws off) : rowOf (mixN ws off v 8) (8 * ws.length) = rowOf (byteN (put ws off v)) (8 * (put ws off v).length) := by
  rw [put_len]
  refine rowOf_congr fun j hj => ?_
  rw [byteN_put ws off v j h hj]
  rfl
structure StoreRel (w : World) (D : Nat) (ws : List Nat) (off v k : Nat) (wr : World) : Prop where
  grown : w.grownBy wr (some D)
  data : wr.heap[D]? = some (.cells (rowOf (mixN ws off v k) (8 * ws.length)) 5 (0, 0))
theorem StoreRel.next {w wr : World} {D : Nat} {ws : List Nat} {off v k : Nat} (R : StoreRel w D ws off v k wr) :
    StoreRel w D ws off v (k + 1) (wr.setCell ⟨D, off + k, none⟩ (.int .u8 (wb v k : Nat))) where
  grown := grown_trans R.grown (grown_set _ _ _ _)
  data := by rw [heap_setCell_same R.data, mix_next]
set_option maxHeartbeats 400000 in
theorem each_store {w : World} {B D V : Nat} {ws : List Nat} (h : IsSeg w B D ws) (off v : Nat) (ho : stands ws off) (hv : v < 18446744073709551616) (hVB : V ≠ B) (hVD : V ≠ D)
    (hV : w.heap[V]? = some (.cells #[.int .u64 v] 31 (0, 0))) :
    Calls Try.prog 66 #[.pointer (some ⟨B, 0, none⟩), .int .u64 off, .func (.func 67) #[] #[.pointer (some ⟨V, 0, none⟩)]] w
      fun e w' => e = .returned (.tuple #[]) ∧ StoreRel w D ws off v 8 w' := by
  have h1 := h.hd
  have h2 := h.most
  have h4 : off % 8 = 0 := ho.1
  have h6 : off + 8 ≤ 8 * ws.length := by have := ho.2; omega
  have H4 := Lib.hid h4
  clear h4
  have R0 : StoreRel w D ws off v 0 w := ⟨grown_refl _ _, by rw [mix_zero]; exact h.data⟩
  have hVl := lt_of_block hV
  go_enter Try.func66, Try.ntmps66
  go_wp2
  simp only [eight_less]
  go_loopw [7, 18] (fun _ i wr => ∃ k : Nat, k ≤ 8 ∧ i = .int .i64 k ∧ StoreRel w D ws off v k wr) (fun _ i _ => 8 - (intOf i).toNat)
  case atStart => exact ⟨0, Nat.zero_le _, rfl, R0⟩
  case round =>
    obtain ⟨k, hk, rfl, R⟩ := hrel
    clear R0 h1
    by_cases hlt : k < 8
    · have hVr : wr.cell? ⟨V, 0, none⟩ = some (.int .u64 v) := cell_of_one ((R.grown.block V hVl (by simpa using hVD)).trans hV)
      have hb := cell_of_row R.data (off + k) (by omega)
      go_wp2_with (go_at_call 67; refine (store1_at v k hlt hv V D (off + k) _ _ hVr hb (free_of_row R.data _)).mono ?_; rintro e w' ⟨rfl, rfl⟩)
      go_roundw
      case rel => exact ⟨k + 1, by omega, by go_num, R.next⟩
      case measure => simp [intOf]; omega
    · obtain rfl : k = 8 := by omega
      go_wp2
      go_end0
      exact ⟨rfl, R⟩
theorem store_no {w : World} {p : Value} {ws : List Nat} (h : SegAt w p ws) (off v : Nat) (hlt : off < 18446744073709551616) (ho : ¬ stands ws off) :
    Calls Try.prog 54 #[p, .int .u64 off, .int .u64 v] w fun e w' => e = .returned (.int .i64 1) ∧ w.grownBy w' none := by
  have hd := decide_eq_false ho
  have h' : SegAt (w.alloc (.cells #[.int .u64 v] 31)) p ws := by
    rcases h with h | ⟨B, D, rfl, h⟩
    · exact .inl h
    · exact .inr ⟨B, D, rfl, h.later (World.grownBy_alloc _ _ _)⟩
  have hc := has_any h' off hlt
  rw [hd] at hc
  go_enter Try.func54, Try.ntmps54
  go_wp2_with (go_at_call 65; refine hc.mono ?_; rintro e w' ⟨rfl, rfl⟩)
  go_ret
  exact ⟨rfl, World.grownBy_alloc _ _ _⟩
theorem store_yes {w : World} {B D : Nat} {ws : List Nat} (h : IsSeg w B D ws) (off v : Nat) (hlt : off < 18446744073709551616) (hv : v < 18446744073709551616) (ho : stands ws off) :
    Calls Try.prog 54 #[.pointer (some ⟨B, 0, none⟩), .int .u64 off, .int .u64 v] w fun e w' => e = .returned (.int .i64 0) ∧ w.grownBy w' (some D) ∧ IsSeg w' B D (put ws off v) := by
  have hd := decide_eq_true ho
  have hs1 : IsSeg (w.alloc (.cells #[.int .u64 v] 31)) B D ws := h.later (World.grownBy_alloc _ _ _)
  have hc := has_any (.inr ⟨B, D, rfl, hs1⟩) off hlt
  rw [hd] at hc
  go_enter Try.func54, Try.ntmps54
  go_wp2_with (first | (go_at_call 65; refine hc.mono ?_; rintro e w' ⟨rfl, rfl⟩) | (go_at_call 66; refine (each_store hs1 off v ho hv (Nat.ne_of_gt h.ltB) (Nat.ne_of_gt h.ltD) (heap_alloc_new' _ _)).mono ?_; rintro e w1 ⟨rfl, R⟩))
  go_ret
  refine ⟨rfl, grown_trans (grown_any (World.grownBy_alloc _ _ _) _) R.grown, ?_⟩
  exact {
    head := by rw [put_len]; exact (R.grown.block B hs1.ltB (by simpa using h.ne)).trans hs1.head
    data := by rw [← mix_all ws off v ho]; exact R.data
    ne := h.ne
    words := put_lt h.words hv
    some1 := by rw [put_len]; exact h.some1
    most := by rw [put_len]; exact h.most }
theorem store_any {w : World} {B D : Nat} {ws : List Nat} (h : IsSeg w B D ws) (off v : Nat) (hlt : off < 18446744073709551616) (hv : v < 18446744073709551616) :
    Calls Try.prog 54 #[.pointer (some ⟨B, 0, none⟩), .int .u64 off, .int .u64 v] w fun e w' => e = .returned (.int .i64 (errW ws off : Nat)) ∧ w.grownBy w' (some D) ∧ IsSeg w' B D (put ws off v) := by
  unfold errW
  by_cases ho : stands ws off
  · rw [if_pos ho]; exact store_yes h off v hlt hv ho
  · rw [if_neg ho]
    refine (store_no (.inr ⟨B, D, rfl, h⟩) off v hlt ho).mono ?_
    rintro e w' ⟨rfl, hg⟩
    refine ⟨rfl, grown_any hg _, ?_⟩
    unfold put
    rw [if_neg ho]
    exact h.later hg
end Go.Proofs.Ytkkkgikmeiocaaa
namespace Go.Proofs.Ytkkkgikmeiocaaa
open Go.RowKit
theorem info_byte : (Try.prog.info? 5).map (fun i => (i.zero, i.size, i.bytes)) = some (some (.int .u8 0), 1, 1) := by kernel_rfl
theorem make_bytes (k : IntKind) (n : Nat) (hn : n ≤ 1048576) (w : World) :
    (Instr.makeSlice 53 (.int k n) (.int k n)).run Try.prog w = .ok (.slice (some ⟨w.heap.size, 0, none⟩) n n) (w.alloc (.cells (rowOf (fun _ => 0) n) 5)) := by
  obtain ⟨i, hi, hz, hs, hb⟩ := info_parts info_byte
  have h := run_make (P := Try.prog) w 53 5 i _ Try.underlying53 hi hz k k n n (by omega) (Int.le_refl _) (by rw [hb]; omega) (by omega)
  rw [h, hs]
  simp only [Int.toNat_natCast, Nat.mul_one]
  rw [show (Value.int .u8 0).cells = #[.int .u8 0] from rfl, made_row]
def may (n : Nat) : Prop := n ≠ 0 ∧ n % 8 = 0 ∧ n ≤ 1048576
instance (n : Nat) : Decidable (may n) := by unfold may; infer_instance
theorem zeros_row (m : Nat) : rowOf (fun _ => 0) (8 * m) = rowOf (byteN (List.replicate m 0)) (8 * (List.replicate m 0).length) := by
  rw [List.length_replicate]
  refine rowOf_congr fun j hj => ?_
  unfold byteN
  have : (List.replicate m 0).getD (j / 8) 0 = 0 := by
    rw [List.getD_eq_getElem?_getD, List.getElem?_replicate]
    split <;> rfl
  rw [this]
  simp [wb]
theorem new_yes (m : Nat) (h1 : 1 ≤ m) (hm : m ≤ 131072) (w : World) :
    Calls Try.prog 37 #[.int .u64 (8 * m : Nat)] w fun e w' => e = .returned (.pointer (some ⟨w.heap.size + 1, 0, none⟩)) ∧ w.grownBy w' none ∧ IsSeg w' (w.heap.size + 1) w.heap.size (List.replicate m 0) := by
  have hmk := make_bytes .u64 (8 * m) (by omega)
  obtain ⟨n, hn⟩ : ∃ n, n = 8 * m := ⟨_, rfl⟩
  rw [← hn] at hmk ⊢
  have c0 : ((n : Int) == 0) = false := by rw [beq_eq_false_iff_ne]; omega
  have c1 : ((n : Int) % 8 != 0) = false := by rw [bne_eq_false_iff_eq]; omega
  have c2 : ¬ 1048576 < (n : Int) := by omega
  have H := Lib.hid hn
  clear hn
  go_enter Try.func37, Try.ntmps37
  go_wp2
  go_ret
  refine ⟨rfl, grown_trans (World.grownBy_alloc _ _ _) (World.grownBy_alloc _ _ _), ?_⟩
  have e := H.out
  subst e
  exact {
    head := by
      rw [List.length_replicate]
      have := heap_alloc_new' (w.alloc (.cells (rowOf (fun _ => 0) (8 * m)) 5)) (.cells #[.slice (some ⟨w.heap.size, 0, none⟩) (8 * m) (8 * m)] 103)
      rw [World.size_alloc] at this
      exact this
    data := by
      rw [← zeros_row, Below.heap_alloc _ _ _ (by simp)]
      exact heap_alloc_new' _ _
    ne := by omega
    words := by intro x hx; rw [List.eq_of_mem_replicate hx]; decide
    some1 := by simpa using h1
    most := by simpa using hm }
end Go.Proofs.Ytkkkgikmeiocaaa
namespace Go.Proofs.Ytkkkgikmeiocaaa
open Go.RowKit
def cellsU (l : List Nat) : List Value := l.map fun x => .int .u64 (x : Nat)
theorem SegAt.later {w w' : World} {v : Value} {ws : List Nat} (h : SegAt w v ws) (hg : w.grownBy w' none) : SegAt w' v ws := by
  rcases h with h | ⟨B, D, rfl, h⟩
  · exact .inl h
  · exact .inr ⟨B, D, rfl, h.later hg⟩
theorem SegAt.most {w : World} {v : Value} {ws : List Nat} (h : SegAt w v ws) : ws.length ≤ 131072 := by
  rcases h with ⟨_, rfl⟩ | ⟨B, D, rfl, h⟩
  · simp
  · exact h.most
theorem own_kept {w w' : World} {base : Nat} {e : TypeId} {size : Nat} {v : Value} {n : Nat} {xs : List Value} (h : w.ownsRow base e size v n xs) (hg : w.grownBy w' none) : w'.ownsRow base e size v n xs :=
  h.kept hg (by cases v.ownBlock <;> simp)
theorem info_u64 : (Try.prog.info? 31).map (fun i => (i.zero, i.size, i.bytes)) = some (some (.int .u64 0), 1, 8) := by kernel_rfl
end Go.Proofs.Ytkkkgikmeiocaaa
namespace Go.Proofs.Ytkkkgikmeiocaaa
open Go.RowKit
theorem rmay_any (n : Nat) (hn : n < 18446744073709551616) (w : World) :
    Calls Try.prog 69 #[.int .u64 n] w fun e w' => e = .returned (.bool (decide (may n))) ∧ w = w' := by
  by_cases h0 : 0 < (n : Int)
  · by_cases h8 : (n : Int) % 8 = 0
    · have hd : decide (may n) = decide ((n : Int) ≤ 1048576) := by
        rw [decide_eq_decide]
        unfold may
        omega
      rw [hd]
      go_enter Try.func69, Try.ntmps69
      go_wp2
      go_ret
      exact ⟨rfl, rfl⟩
    · have hd : decide (may n) = false := decide_eq_false (by unfold may; omega)
      rw [hd]
      go_enter Try.func69, Try.ntmps69
      go_wp2
      go_ret
      exact ⟨rfl, rfl⟩
  · have hd : decide (may n) = false := decide_eq_false (by unfold may; omega)
    rw [hd]
    have : n = 0 := by omega
    subst this
    go_enter Try.func69, Try.ntmps69
    go_wp2
    go_ret
    exact ⟨rfl, rfl⟩
def OwnW (w : World) (base : Nat) (v : Value) (ws : List Nat) : Prop := w.ownsRow base 31 1 v ws.length (cellsU ws)
theorem OwnW.later {w w' : World} {base : Nat} {v : Value} {ws : List Nat} (h : OwnW w base v ws) (hg : w.grownBy w' none) : OwnW w' base v ws := own_kept h hg
theorem OwnW.slice {w : World} {base : Nat} {v : Value} {ws : List Nat} (h : OwnW w base v ws) : ∃ a c, v = .slice a ws.length c := by
  rcases h.2 with ⟨h1, h2⟩ | ⟨g, cap, cur, hv, _⟩
  · exact ⟨none, 0, by rw [h1, h2]⟩
  · exact ⟨_, _, hv⟩
theorem OwnW.mono {w : World} {base base' : Nat} {v : Value} {ws : List Nat} (h : OwnW w base v ws) (hb : base' ≤ base) : OwnW w base' v ws := World.ownsRow.mono h hb
theorem OwnW.at_ {w : World} {base g c : Nat} {ws : List Nat} (h : OwnW w base (.slice (some ⟨g, 0, none⟩) ws.length c) ws) (j : Nat) (hj : j < ws.length) : w.cell? ⟨g, j, none⟩ = some (.int .u64 (ws.getD j 0 : Nat)) := by
  have := World.ownsRow.cellAt h j (by omega)
  rw [this]
  simp [cellsU, List.getElem?_eq_getElem hj]
theorem make_words (n : Nat) (hn : n ≤ 1048576) (w : World) :
    (Instr.makeSlice 26 (.int .u64 n) (.int .u64 n)).run Try.prog w = .ok (.slice (some ⟨w.heap.size, 0, none⟩) n n) (w.alloc (.cells (madeCells #[.int .u64 0] n) 31)) := by
  obtain ⟨i, hi, hz, hs, hb⟩ := info_parts info_u64
  have h := run_make (P := Try.prog) w 26 31 i _ Try.underlying26 hi hz .u64 .u64 n n (by omega) (Int.le_refl _) (by rw [hb]; omega) (by omega)
  rw [h, hs]
  simp only [Int.toNat_natCast, Nat.mul_one]
  rfl
theorem made_words (m : Nat) : (madeCells (#[.int .u64 0] : Array Value) m).toList = cellsU (List.replicate m 0) := by
  rw [toList_madeCells_one]
  simp [cellsU]
theorem own_made (w : World) (m : Nat) (hm : m ≤ 131072) : OwnW (w.alloc (.cells (madeCells #[.int .u64 0] m) 31)) w.heap.size (.slice (some ⟨w.heap.size, 0, none⟩) m m) (List.replicate m 0) := by
  have h := World.ownsRow_lit (base := w.heap.size) (e := 31) (size := 1) w (madeCells #[.int .u64 0] m) m (Nat.le_refl _) (by unfold maxLen; omega) (by rw [size_madeCells, Nat.mul_one])
  unfold OwnW
  rw [List.length_replicate, ← made_words]
  exact h
theorem rnew_yes (m : Nat) (h1 : 1 ≤ m) (hm : m ≤ 131072) (w : World) :
    Calls Try.prog 57 #[.int .u64 (8 * m : Nat)] w fun e w' => e = .returned (.slice (some ⟨w.heap.size, 0, none⟩) m m) ∧ w.grownBy w' none ∧ OwnW w' w.heap.size (.slice (some ⟨w.heap.size, 0, none⟩) m m) (List.replicate m 0) := by
  have hc := rmay_any (8 * m) (by omega) w
  rw [decide_eq_true (show may (8 * m) from ⟨by omega, by omega, by omega⟩)] at hc
  have hmk := make_words m (by omega)
  obtain ⟨n, hn⟩ : ∃ n, 8 * m = n := ⟨_, rfl⟩
  rw [hn] at hc ⊢
  have hq : (n : Int) / 8 = (m : Int) := by omega
  have H := Lib.hid hn
  clear hn
  have ho := own_made w m hm
  go_enter Try.func57, Try.ntmps57
  go_wp2_with (go_at_call 69; refine hc.mono ?_; rintro e w' ⟨rfl, rfl⟩)
  go_ret
  exact ⟨rfl, World.grownBy_alloc _ _ _, ho⟩
theorem rin_any {w : World} {base : Nat} {v : Value} {ws : List Nat} (h : OwnW w base v ws) (hm : ws.length ≤ 131072) (off : Nat) (ho : off < 18446744073709551616) :
    Calls Try.prog 71 #[v, .int .u64 off] w fun e w' => e = .returned (.bool (decide (stands ws off))) ∧ w = w' := by
  obtain ⟨a, c, rfl⟩ := h.slice
  by_cases h8 : (off : Int) % 8 = 0
  · have hd : decide (stands ws off) = decide ((off : Int) / 8 < (ws.length : Int)) := by
      rw [decide_eq_decide]
      unfold stands
      omega
    rw [hd]
    go_enter Try.func71, Try.ntmps71
    go_wp2
    go_ret
    exact ⟨rfl, rfl⟩
  · have hd : decide (stands ws off) = false := decide_eq_false (by unfold stands; omega)
    rw [hd]
    go_enter Try.func71, Try.ntmps71
    go_wp2
    go_ret
    exact ⟨rfl, rfl⟩
theorem OwnW.addr {w : World} {base : Nat} {v : Value} {ws : List Nat} (h : OwnW w base v ws) : ∃ a c g, v = .slice a ws.length c ∧ (0 < ws.length → a = some ⟨g, 0, none⟩) ∧ ∀ w', OwnW w' base v ws → ∀ j, j < ws.length → w'.cell? ⟨g, j, none⟩ = some (.int .u64 (ws.getD j 0 : Nat)) := by
  rcases h.2 with ⟨h1, h2⟩ | ⟨g, cap, cur, hv, _⟩
  · exact ⟨none, 0, 0, by rw [h1, h2], fun h => by omega, fun w' _ j hj => by omega⟩
  · exact ⟨_, cap, g, hv, fun _ => rfl, fun w' h' j hj => by rw [hv] at h'; exact OwnW.at_ h' j hj⟩
end Go.Proofs.Ytkkkgikmeiocaaa
namespace Go.Proofs.Ytkkkgikmeiocaaa
open Go.RowKit
structure PutsAt (w : World) (la : Option Addr) (n : Nat) (X V : Nat → Nat) : Prop where
  lt : ∀ i, X i < 18446744073709551616 ∧ V i < 18446744073709551616
  cells : 0 < n → ∃ b off, la = some ⟨b, off, none⟩ ∧ b < w.heap.size ∧ ∀ i, i < n → w.cell? ⟨b, off + i * 2, none⟩ = some (.int .u64 (X i : Nat)) ∧ w.cell? ⟨b, off + i * 2 + 1, none⟩ = some (.int .u64 (V i : Nat))
theorem PutsAt.later {w w' : World} {la : Option Addr} {n : Nat} {X V : Nat → Nat} (h : PutsAt w la n X V) (hg : w.grownBy w' none) : PutsAt w' la n X V where
  lt := h.lt
  cells := fun hn => by
    obtain ⟨b, off, h1, h2, h3⟩ := h.cells hn
    refine ⟨b, off, h1, Nat.lt_of_lt_of_le h2 hg.size, fun i hi => ?_⟩
    have hb := hg.block b h2 (by simp)
    exact ⟨(World.cell?_of_block (w := w) (a := ⟨b, off + i * 2, none⟩) hb).trans (h3 i hi).1, (World.cell?_of_block (w := w) (a := ⟨b, off + i * 2 + 1, none⟩) hb).trans (h3 i hi).2⟩
end Go.Proofs.Ytkkkgikmeiocaaa
namespace Go.Proofs.Ytkkkgikmeiocaaa
open Go.RowKit
structure Turned (p : Nat → Prop) (w w' : World) : Prop where
  os : w'.os = w.os
  tape : w'.tape = w.tape
  output : w'.output = w.output
  size : w.heap.size ≤ w'.heap.size
  block : ∀ k, k < w.heap.size → ¬ p k → w'.heap[k]? = w.heap[k]?
theorem Turned.refl (p : Nat → Prop) (w : World) : Turned p w w := ⟨rfl, rfl, rfl, Nat.le_refl _, fun _ _ _ => rfl⟩
theorem Turned.mono {p q : Nat → Prop} {w w' : World} (h : Turned p w w') (hq : ∀ k, k < w.heap.size → p k → q k) : Turned q w w' :=
  ⟨h.os, h.tape, h.output, h.size, fun k hk hn => h.block k hk (fun hp => hn (hq k hk hp))⟩
theorem Turned.of_grown {w w' : World} {row : Option Nat} (h : w.grownBy w' row) : Turned (fun k => row = some k) w w' :=
  ⟨h.os, h.tape, h.output, h.size, fun k hk hn => h.block k hk (fun e => hn e.symm)⟩
theorem Turned.of_none {w w' : World} (h : w.grownBy w' none) (p : Nat → Prop) : Turned p w w' :=
  ⟨h.os, h.tape, h.output, h.size, fun k hk _ => h.block k hk (by simp)⟩
theorem Turned.trans {p q : Nat → Prop} {a b c : World} (h : Turned p a b) (k : Turned q b c) (hq : ∀ i, q i → p i ∨ a.heap.size ≤ i) : Turned p a c :=
  ⟨k.os.trans h.os, k.tape.trans h.tape, k.output.trans h.output, Nat.le_trans h.size k.size, fun i hi hn =>
    (k.block i (Nat.lt_of_lt_of_le hi h.size) (fun hk => by
      rcases hq i hk with h' | h'
      · exact hn h'
      · omega)).trans (h.block i hi hn)⟩
theorem Turned.later {p : Nat → Prop} {a b c : World} (h : Turned p a b) (k : b.grownBy c none) : Turned p a c := h.trans (Turned.of_none k (fun _ => False)) (fun _ hf => hf.elim)
theorem Turned.first {p : Nat → Prop} {a b c : World} (h : a.grownBy b none) (k : Turned p b c) : Turned p a c := (Turned.of_none h p).trans k (fun _ hp => .inl hp)
theorem Turned.grown {p : Nat → Prop} {a b : World} (h : Turned p a b) (hp : ∀ i, p i → a.heap.size ≤ i) : a.grownBy b none :=
  ⟨h.os, h.tape, h.output, h.size, fun i hi _ => h.block i hi (fun hk => by have := hp i hk; omega)⟩
theorem Turned.heap {p : Nat → Prop} {w w' : World} (h : Turned p w w') {b : Nat} {o : Obj} (hb : w.heap[b]? = some o) (hn : ¬ p b) : w'.heap[b]? = some o := (h.block b (lt_of_block hb) hn).trans hb
theorem Turned.row {w w' : World} {k : Nat} (h : Turned (fun i => i = k) w w') : w.grownBy w' (some k) :=
  ⟨h.os, h.tape, h.output, h.size, fun i hi hn => h.block i hi (fun e => hn (congrArg some e))⟩
section
variable {p : Nat → Prop} {w w' : World}
theorem IsSeg.turned {B D : Nat} {ws : List Nat} (h : IsSeg w B D ws) (ht : Turned p w w') (hB : ¬ p B) (hD : ¬ p D) : IsSeg w' B D ws where
  head := ht.heap h.head hB
  data := ht.heap h.data hD
  ne := h.ne
  words := h.words
  some1 := h.some1
  most := h.most
theorem row_turned {base : Nat} {e : TypeId} {size : Nat} {v : Value} {n : Nat} {xs : List Value} (h : w.ownsRow base e size v n xs) (ht : Turned p w w') (hne : ∀ g, v.ownBlock = some g → ¬ p g) : w'.ownsRow base e size v n xs := by
  refine ⟨h.1, ?_⟩
  rcases h.2 with hn | ⟨g, cap, cur, rfl, hb, hgg, rest⟩
  · exact .inl hn
  · exact .inr ⟨g, cap, cur, rfl, hb, ht.heap hgg (hne g rfl), rest⟩
theorem map_turned {H : Type} {P : Program} {k : TypeId} {R : Value → Option (DataW H × List MemPlace)} {b n : Nat} {D : DataW H} (h : w.ownsMap P k R b n D) (ht : Turned p w w') (hb : ¬ p b) : w'.ownsMap P k R b n D := by
  obtain ⟨es, clock, h1, rest⟩ := h
  exact ⟨es, clock, ht.heap h1 hb, rest⟩
end
theorem row_block {w : World} {base : Nat} {e : TypeId} {size : Nat} {v : Value} {n : Nat} {xs : List Value} (h : w.ownsRow base e size v n xs) {g : Nat} (hg : v.ownBlock = some g) : base ≤ g ∧ ∃ cur, w.heap[g]? = some (.cells cur e (0, 0)) := by
  rcases h.2 with ⟨rfl, _⟩ | ⟨g', cap, cur, rfl, hb, hgg, _⟩
  · cases hg
  · injection hg with hg
    subst hg
    exact ⟨hb, cur, hgg⟩
theorem map_block {H : Type} {w : World} {P : Program} {k : TypeId} {R : Value → Option (DataW H × List MemPlace)} {b n : Nat} {D : DataW H} (h : w.ownsMap P k R b n D) : ∃ es clock, w.heap[b]? = some (.map es clock) := by
  obtain ⟨es, clock, h1, _⟩ := h
  exact ⟨es, clock, h1⟩
theorem map_tight {H : Type} {w : World} {P : Program} {k : TypeId} {R : Value → Option (DataW H × List MemPlace)} {b n : Nat} {D : DataW H} (h : w.ownsMap P k R b n D) : w.ownsMap P k R b (Maps.size D) D := by
  obtain ⟨es, clock, h1, F, _, rfl⟩ := h
  exact ⟨es, clock, h1, F, by simp [Maps.size, length_sorted], rfl⟩
theorem ne_type {w : World} {a b : Nat} {c c' : Array Value} {t t' : TypeId} {f f' : Nat × Nat} (h : w.heap[a]? = some (.cells c t f)) (h' : w.heap[b]? = some (.cells c' t' f')) (hne : t ≠ t') : a ≠ b := by
  intro e
  subst e
  rw [h] at h'
  injection h' with h'
  injection h' with _ h2 _
  exact hne h2
theorem ne_map {w : World} {a b : Nat} {c : Array Value} {t : TypeId} {f : Nat × Nat} {es : Array MapEntry} {clock : Nat} (h : w.heap[a]? = some (.cells c t f)) (h' : w.heap[b]? = some (.map es clock)) : a ≠ b := by
  intro e
  subst e
  rw [h] at h'
  cases h'
end Go.Proofs.Ytkkkgikmeiocaaa
