/-
  Texts of one layer, one behind the other: memory, contracts of the functions, and what follows of them.
  Conditions: as each theorem says.
-/
import Derived.Test.YtmcnpenihoaajaaGreatProg
import Derived.WalkKit
import Derived.WalkSpells
import Derived.WalkLawsBesides
import Derived.Handy
import Derived.KernelRfl
import Derived.Below
import Derived.OneCell
import Derived.Laws.MakeOwn
import Derived.Laws.CopyOwn
import Derived.Lib.Hide
import Derived.Laws.BitsAll
import Derived.IntWalk
import Derived.BigGuard
import Derived.RegionTactic
import Derived.ChangeAlike
import Derived.BigRegion
import Derived.LoopTactic
import Derived.Deep.LoopGhost
import Derived.Deep.WholeRow
import Derived.Laws.IdiomCopy
import Derived.Deep.RegionLaw
import Derived.Deep.AppendLies
import Derived.Deep.Onto
import Derived.Maps.OwnSet
import Derived.Maps.AppendAt
set_option linter.unusedVariables false
set_option linter.unusedSimpArgs false
namespace Go.Proofs.YtmcnpenihoaajaaGreat
open Go.RowKit
theorem ret_int' {k : IntKind} {a b : Int} (h : a = b) : Ending.returned (.int k a) = .returned (.int k b) := by rw [h]
def rowOf (f : Nat → Nat) (n : Nat) : Array Value := (Array.range n).map fun j => .int .u8 (f j : Nat)
theorem size_rowOf (f : Nat → Nat) (n : Nat) : (rowOf f n).size = n := by simp [rowOf]
theorem rowOf_at (f : Nat → Nat) (n j : Nat) (h : j < n) : (rowOf f n)[j]? = some (.int .u8 (f j : Nat)) := by
  simp [rowOf, Array.getElem?_range, h]
theorem rowOf_congr {f g : Nat → Nat} {n : Nat} (h : ∀ j, j < n → f j = g j) : rowOf f n = rowOf g n := by
  apply Array.ext
  · simp [size_rowOf]
  · intro i h1 h2
    rw [size_rowOf] at h1
    simp [rowOf, h i h1]
theorem rowOf_set (f : Nat → Nat) (n i b : Nat) : (rowOf f n).setIfInBounds i (.int .u8 (b : Nat)) = rowOf (fun j => if j = i then b else f j) n := by
  apply Array.ext
  · simp [size_rowOf]
  · intro j h1 h2
    rw [size_rowOf] at h2
    rw [Array.getElem_setIfInBounds (by simpa [size_rowOf] using h2)]
    by_cases e : i = j
    · subst e; simp [rowOf]
    · have e' : ¬ j = i := fun h => e h.symm
      simp [rowOf, e, e']
theorem made_row (n : Nat) : madeCells (#[.int .u8 0] : Array Value) n = rowOf (fun _ => 0) n := by
  apply Array.ext
  · simp [size_madeCells, size_rowOf]
  · intro j h1 h2
    simp [madeCells, rowOf, Nat.mod_one]
theorem rowOf_toList (f : Nat → Nat) (n : Nat) : (rowOf f n).toList = (List.range n).map fun j => Value.int .u8 (f j : Nat) := by
  simp [rowOf]
theorem rowOf_one (f : Nat → Nat) (n : Nat) : ∀ v ∈ (rowOf f n).toList, v.oneCell' = true := by
  intro v hv
  rw [rowOf_toList] at hv
  obtain ⟨j, _, rfl⟩ := List.mem_map.mp hv
  rfl
def wb (x i : Nat) : Nat := x / 256 ^ i % 256
theorem wb_lt (x i : Nat) : wb x i < 256 := Nat.mod_lt _ (by decide)
theorem mod_step (x k : Nat) : x % 256 ^ (k + 1) = x % 256 ^ k + wb x k * 256 ^ k := by
  unfold wb
  rw [Nat.pow_succ, Nat.mod_mul, Nat.mul_comm (256 ^ k)]
def byteN (ws : List Nat) (j : Nat) : Nat := wb (ws.getD (j / 8) 0) (j % 8)
def stands (ws : List Nat) (off : Nat) : Prop := off % 8 = 0 ∧ off < 8 * ws.length
instance (ws : List Nat) (off : Nat) : Decidable (stands ws off) := by unfold stands; infer_instance
def put (ws : List Nat) (off v : Nat) : List Nat := if stands ws off then ws.set (off / 8) v else ws
theorem put_len (ws : List Nat) (off v : Nat) : (put ws off v).length = ws.length := by unfold put; split <;> simp
theorem put_lt {ws : List Nat} {off v : Nat} (h : ∀ x ∈ ws, x < 18446744073709551616) (hv : v < 18446744073709551616) : ∀ x ∈ put ws off v, x < 18446744073709551616 := by
  unfold put
  split
  · intro x hx
    rcases List.mem_or_eq_of_mem_set hx with h' | h'
    · exact h x h'
    · omega
  · exact h
theorem getD_lt {ws : List Nat} (h : ∀ x ∈ ws, x < 18446744073709551616) (i : Nat) : ws.getD i 0 < 18446744073709551616 := by
  rw [List.getD_eq_getElem?_getD]
  rcases e : ws[i]? with _ | x
  · simp
  · exact h x (List.mem_of_getElem? e)
theorem all_eight (x : Nat) (h : x < 18446744073709551616) : x % 256 ^ 8 = x := by
  apply Nat.mod_eq_of_lt
  have : (256 : Nat) ^ 8 = 18446744073709551616 := by decide
  omega
theorem byteN_put (ws : List Nat) (off v j : Nat) (h : stands ws off) (hj : j < 8 * ws.length) :
    byteN (put ws off v) j = if off ≤ j ∧ j < off + 8 then wb v (j - off) else byteN ws j := by
  obtain ⟨h1, h2⟩ := h
  unfold put
  rw [if_pos ⟨h1, h2⟩]
  unfold byteN
  have hi : j / 8 < ws.length := by omega
  by_cases e : off ≤ j ∧ j < off + 8
  · rw [if_pos e]
    have e1 : j / 8 = off / 8 := by omega
    have e2 : j % 8 = j - off := by omega
    rw [e1] at hi
    rw [e1, e2, List.getD_eq_getElem?_getD, List.getElem?_set_self hi]; rfl
  · rw [if_neg e]
    have e1 : off / 8 ≠ j / 8 := by omega
    rw [List.getD_eq_getElem?_getD, List.getD_eq_getElem?_getD, List.getElem?_set_ne e1]
theorem heap_setCell_same {w : World} {b o : Nat} {c : Array Value} {t : TypeId} {fr : Nat × Nat} (h : w.heap[b]? = some (.cells c t fr)) (v : Value) :
    (w.setCell ⟨b, o, none⟩ v).heap[b]? = some (.cells (c.setIfInBounds o v) t fr) := by
  have hb := lt_of_block h
  simp [World.setCell, Array.getElem?_modify, h]
theorem cell_of_row {w : World} {b n : Nat} {f : Nat → Nat} {t : TypeId} {fr : Nat × Nat} (h : w.heap[b]? = some (.cells (rowOf f n) t fr)) (j : Nat) (hj : j < n) : w.cell? ⟨b, j, none⟩ = some (.int .u8 (f j : Nat)) := by
  simp [World.cell?, h, rowOf_at f n j hj]
theorem free_of_row {w : World} {b : Nat} {c : Array Value} {t : TypeId} (h : w.heap[b]? = some (.cells c t (0, 0))) (o : Nat) : w.frozen? ⟨b, o, none⟩ = false := by
  simp [World.frozen?, h]
theorem heap_alloc_new' (w : World) (o : Obj) : (w.alloc o).heap[w.heap.size]? = some o := by
  show (w.heap.push o)[w.heap.size]? = _
  simp
theorem grown_refl (w : World) (row : Option Nat) : w.grownBy w row := ⟨rfl, rfl, rfl, Nat.le_refl _, fun _ _ _ => rfl⟩
theorem grown_trans {a b c : World} {row : Option Nat} (h : a.grownBy b row) (k : b.grownBy c row) : a.grownBy c row :=
  ⟨k.os.trans h.os, k.tape.trans h.tape, k.output.trans h.output, Nat.le_trans h.size k.size, fun i hi hn => (k.block i (Nat.lt_of_lt_of_le hi h.size) hn).trans (h.block i hi hn)⟩
theorem grown_any {a b : World} (h : a.grownBy b none) (row : Option Nat) : a.grownBy b row :=
  ⟨h.os, h.tape, h.output, h.size, fun i hi _ => h.block i hi (by simp)⟩
theorem grown_set (w : World) (b o : Nat) (v : Value) : w.grownBy (w.setCell ⟨b, o, none⟩ v) (some b) :=
  ⟨rfl, rfl, rfl, by simp [World.setCell], fun i hi hn => Below.heap_setCell _ _ _ _ (fun e => hn (congrArg some e))⟩
theorem grown_drew {a b : World} {row : Option Nat} (h : a.grownBy b row) : a.grownBy b.drew row := ⟨h.os, h.tape, h.output, h.size, h.block⟩
theorem grown_new {a b : World} {k : Nat} (h : a.grownBy b (some k)) (hk : a.heap.size ≤ k) : a.grownBy b none :=
  ⟨h.os, h.tape, h.output, h.size, fun i hi _ => h.block i hi (by intro e; injection e; omega)⟩
theorem grown_below {a b : World} (h : a.grownBy b none) : Below a.heap.size a b := ⟨h.os, h.tape, h.output, h.size, fun i hi => h.block i hi (by simp)⟩
theorem below_grown {a b : World} (h : Below a.heap.size a b) : a.grownBy b none := ⟨h.os, h.tape, h.output, h.size, fun i hi _ => h.block i hi⟩
theorem grown_step {a b c : World} {row row' : Option Nat} (h : a.grownBy b row) (k : b.grownBy c row') (hr : ∀ i, row' = some i → a.heap.size ≤ i ∨ row = some i) : a.grownBy c row :=
  ⟨k.os.trans h.os, k.tape.trans h.tape, k.output.trans h.output, Nat.le_trans h.size k.size, fun i hi hn =>
    (k.block i (Nat.lt_of_lt_of_le hi h.size) (by
      intro e
      rcases hr i e.symm with h' | h'
      · omega
      · exact hn h'.symm)).trans (h.block i hi hn)⟩
structure IsSeg (w : World) (B D : Nat) (ws : List Nat) : Prop where
  head : w.heap[B]? = some (.cells #[.slice (some ⟨D, 0, none⟩) (8 * ws.length) (8 * ws.length)] 51 (0, 0))
  data : w.heap[D]? = some (.cells (rowOf (byteN ws) (8 * ws.length)) 5 (0, 0))
  ne : B ≠ D
  words : ∀ x ∈ ws, x < 18446744073709551616
  some1 : 1 ≤ ws.length
  most : ws.length ≤ 131072
section
variable {w w' : World} {B D : Nat} {ws : List Nat}
theorem IsSeg.hd (h : IsSeg w B D ws) : w.cell? ⟨B, 0, none⟩ = some (.slice (some ⟨D, 0, none⟩) (8 * ws.length) (8 * ws.length)) := by simp [World.cell?, h.head]
theorem IsSeg.at_ (h : IsSeg w B D ws) (j : Nat) (hj : j < 8 * ws.length) : w.cell? ⟨D, j, none⟩ = some (.int .u8 (byteN ws j : Nat)) := cell_of_row h.data j hj
theorem IsSeg.free (h : IsSeg w B D ws) (j : Nat) : w.frozen? ⟨D, j, none⟩ = false := free_of_row h.data j
theorem IsSeg.ltB (h : IsSeg w B D ws) : B < w.heap.size := lt_of_block h.head
theorem IsSeg.ltD (h : IsSeg w B D ws) : D < w.heap.size := lt_of_block h.data
theorem IsSeg.kept (h : IsSeg w B D ws) {row : Option Nat} (hg : w.grownBy w' row) (hB : row ≠ some B) (hD : row ≠ some D) : IsSeg w' B D ws where
  head := (hg.block B h.ltB hB.symm).trans h.head
  data := (hg.block D h.ltD hD.symm).trans h.data
  ne := h.ne
  words := h.words
  some1 := h.some1
  most := h.most
theorem IsSeg.later (h : IsSeg w B D ws) (hg : w.grownBy w' none) : IsSeg w' B D ws := h.kept hg (by simp) (by simp)
end
def SegAt (w : World) (v : Value) (ws : List Nat) : Prop := (v = .pointer none ∧ ws = []) ∨ ∃ B D, v = .pointer (some ⟨B, 0, none⟩) ∧ IsSeg w B D ws
end Go.Proofs.YtmcnpenihoaajaaGreat
namespace Go.Proofs.YtmcnpenihoaajaaGreat
open Go.RowKit
theorem or_join' (x b i : Nat) (hi : i < 8) (hb : b < 256) (hx : x < 256 ^ i) : x ||| b * 2 ^ (8 * i) = x + b * 256 ^ i := by
  have e : (2 : Nat) ^ (8 * i) = 256 ^ i := by rw [Nat.pow_mul]
  rw [e, Nat.or_comm]
  have h := nat_join (8 * i) (b * 256 ^ i) x (by rw [e]; exact Nat.mul_mod_left _ _) (by rw [e]; exact hx)
  rw [h, Nat.add_comm]
theorem pow_le' (i : Nat) (hi : i < 8) : 256 ^ i ≤ 72057594037927936 := by
  have : (256 : Nat) ^ i ≤ 256 ^ 7 := Nat.pow_le_pow_right (by decide) (by omega)
  have e : (256 : Nat) ^ 7 = 72057594037927936 := by decide
  omega
theorem lay_num' (x b i : Nat) (hi : i < 8) (hb : b < 256) (hx : x < 256 ^ i) :
    bits .or .u64 (x : Int) (IntKind.u64.wrap ((b : Int) * 2 ^ (8 * i))) = ((x + b * 256 ^ i : Nat) : Int) := by
  have hp := pow_le' i hi
  have hmul : b * 256 ^ i ≤ 255 * 256 ^ i := Nat.mul_le_mul_right _ (by omega)
  have e : (b : Int) * 2 ^ (8 * i) = ((b * 2 ^ (8 * i) : Nat) : Int) := by simp
  have e2 : (2 : Nat) ^ (8 * i) = 256 ^ i := by rw [Nat.pow_mul]
  rw [e, IntWalk.u64_in _ (by rw [e2]; omega), u64_or_nat x _ (by omega) (by rw [e2]; omega), or_join' x b i hi hb hx]
theorem size_any {w : World} {v : Value} {ws : List Nat} (h : SegAt w v ws) :
    Calls Tryz.prog 18 #[v] w fun e w' => e = .returned (.int .u64 (8 * ws.length : Nat)) ∧ w = w' := by
  rcases h with ⟨rfl, rfl⟩ | ⟨B, D, rfl, h⟩
  · go_enter Tryz.func18, Tryz.ntmps18
    go_wp2
    go_ret
    exact ⟨rfl, rfl⟩
  · have h1 := h.hd
    have h2 := h.most
    go_enter Tryz.func18, Tryz.ntmps18
    go_wp2
    go_ret
    exact ⟨ret_int' (by omega), rfl⟩
theorem has_any {w : World} {v : Value} {ws : List Nat} (h : SegAt w v ws) (off : Nat) (ho : off < 18446744073709551616) :
    Calls Tryz.prog 22 #[v, .int .u64 off] w fun e w' => e = .returned (.bool (decide (stands ws off))) ∧ w = w' := by
  by_cases h8 : (off : Int) % 8 = 0
  · have hd : decide (stands ws off) = decide ((off : Int) < (8 * ws.length : Nat)) := by
      rw [decide_eq_decide]
      unfold stands
      omega
    rw [hd]
    go_enter Tryz.func22, Tryz.ntmps22
    go_wp2_with (go_at_call 18; refine (size_any h).mono ?_; rintro e w' ⟨rfl, rfl⟩)
    go_ret
    exact ⟨rfl, rfl⟩
  · have hd : decide (stands ws off) = false := decide_eq_false (by unfold stands; omega)
    rw [hd]
    go_enter Tryz.func22, Tryz.ntmps22
    go_wp2
    go_ret
    exact ⟨rfl, rfl⟩
def low (x k : Nat) : Nat := x % 256 ^ k
theorem low_step (x k : Nat) : low x (k + 1) = low x k + wb x k * 256 ^ k := mod_step x k
theorem low_lt (x k : Nat) : low x k < 256 ^ k := Nat.mod_lt _ (Nat.pow_pos (by decide))
theorem low_zero (x : Nat) : low x 0 = 0 := by simp [low, Nat.mod_one]
theorem low_all (x : Nat) (h : x < 18446744073709551616) : low x 8 = x := all_eight x h
theorem load1_at (x i : Nat) (hi : i < 8) (V D o : Nat) (w : World)
    (hV : w.cell? ⟨V, 0, none⟩ = some (.int .u64 (low x i))) (hf : w.frozen? ⟨V, 0, none⟩ = false) (hd : w.cell? ⟨D, o, none⟩ = some (.int .u8 (wb x i))) :
    Calls Tryz.prog 65 #[.pointer (some ⟨D, o, none⟩), .int .u64 (8 * i : Nat), .pointer (some ⟨V, 0, none⟩)] w fun e w' => e = .returned (.tuple #[]) ∧ (w.setCell ⟨V, 0, none⟩ (.int .u64 (low x (i + 1)))).drew = w' := by
  have hl := lay_num' (low x i) (wb x i) i hi (wb_lt _ _) (low_lt _ _)
  rw [← low_step] at hl
  have hb := wb_lt x i
  go_enter Tryz.func65, Tryz.ntmps65
  go_wp2
  go_region
  all_goals go_end0
  all_goals exact ⟨rfl, rfl⟩
end Go.Proofs.YtmcnpenihoaajaaGreat
namespace Go.Proofs.YtmcnpenihoaajaaGreat
open Go.RowKit
structure LoadRel (w : World) (V x k : Nat) (wr : World) : Prop where
  grown : w.grownBy wr (some V)
  cell : wr.heap[V]? = some (.cells #[.int .u64 (low x k : Nat)] 22 (0, 0))
theorem LoadRel.next {w wr : World} {V x k : Nat} (R : LoadRel w V x k wr) :
    LoadRel w V x (k + 1) (wr.setCell ⟨V, 0, none⟩ (.int .u64 (low x (k + 1) : Nat))).drew where
  grown := grown_drew (grown_trans R.grown (grown_set _ _ _ _))
  cell := one_setCell R.cell
theorem eight_less (off : Nat) : off + 8 - off = 8 := by omega
set_option maxHeartbeats 400000 in
theorem each_load {w : World} {B D V : Nat} {ws : List Nat} (h : IsSeg w B D ws) (off x : Nat) (ho : stands ws off) (hx : ws.getD (off / 8) 0 = x) (hVB : V ≠ B) (hVD : V ≠ D)
    (hV : w.heap[V]? = some (.cells #[.int .u64 0] 22 (0, 0))) :
    Calls Tryz.prog 23 #[.pointer (some ⟨B, 0, none⟩), .int .u64 off, .func (.func 65) #[] #[.pointer (some ⟨V, 0, none⟩)]] w
      fun e w' => e = .returned (.tuple #[]) ∧ LoadRel w V x 8 w' := by
  have h1 := h.hd
  have h2 := h.most
  have h4 : off % 8 = 0 := ho.1
  have h6 : off + 8 ≤ 8 * ws.length := by have := ho.2; omega
  have H4 := Lib.hid h4
  have H7 := Lib.hid hx
  clear h4 hx
  have R0 : LoadRel w V x 0 w := ⟨grown_refl _ _, by rw [hV, low_zero]; rfl⟩
  go_enter Tryz.func23, Tryz.ntmps23
  go_wp2
  simp only [eight_less]
  go_loopw [7, 18] (fun _ i wr => ∃ k : Nat, k ≤ 8 ∧ i = .int .i64 k ∧ LoadRel w V x k wr) (fun _ i _ => 8 - (intOf i).toNat)
  case atStart => exact ⟨0, Nat.zero_le _, rfl, R0⟩
  case round =>
    obtain ⟨k, hk, rfl, R⟩ := hrel
    clear R0 h1
    by_cases hlt : k < 8
    · have hseg : IsSeg wr B D ws := h.kept R.grown (by simpa using hVB) (by simpa using hVD)
      have hb := hseg.at_ (off + k) (by omega)
      have e1 : byteN ws (off + k) = wb x k := by
        have := H4.out
        unfold byteN
        rw [show (off + k) / 8 = off / 8 by omega, show (off + k) % 8 = k by omega, H7.out]
      rw [e1] at hb
      clear e1
      go_wp2_with (go_at_call 65; refine (load1_at x k hlt V D (off + k) _ (cell_of_one R.cell) (free_of_one R.cell) hb).mono ?_; rintro e w' ⟨rfl, rfl⟩)
      go_roundw
      case rel => exact ⟨k + 1, by omega, by go_num, R.next⟩
      case measure => simp [intOf]; omega
    · obtain rfl : k = 8 := by omega
      go_wp2
      go_end0
      exact ⟨rfl, R⟩
def getW (ws : List Nat) (off : Nat) : Nat := if stands ws off then ws.getD (off / 8) 0 else 0
def errW (ws : List Nat) (off : Nat) : Nat := if stands ws off then 0 else 1
theorem getW_lt {ws : List Nat} (h : ∀ x ∈ ws, x < 18446744073709551616) (off : Nat) : getW ws off < 18446744073709551616 := by
  unfold getW
  split
  · exact getD_lt h _
  · omega
theorem SegAt.isSeg {w : World} {v : Value} {ws : List Nat} (h : SegAt w v ws) {off : Nat} (ho : stands ws off) : ∃ B D, v = .pointer (some ⟨B, 0, none⟩) ∧ IsSeg w B D ws := by
  rcases h with ⟨rfl, rfl⟩ | h
  · exact absurd ho.2 (by simp)
  · exact h
theorem load_no {w : World} {v : Value} {ws : List Nat} (h : SegAt w v ws) (off : Nat) (hlt : off < 18446744073709551616) (ho : ¬ stands ws off) :
    Calls Tryz.prog 32 #[v, .int .u64 off] w fun e w' => e = .returned (.tuple #[.int .u64 0, .int .i64 1]) ∧ w.grownBy w' none := by
  have hd := decide_eq_false ho
  have hc := has_any h off hlt
  rw [hd] at hc
  go_enter Tryz.func32, Tryz.ntmps32
  go_wp2_with (go_at_call 22; refine hc.mono ?_; rintro e w' ⟨rfl, rfl⟩)
  go_ret2
  exact ⟨rfl, grown_refl _ _⟩
theorem load_yes {w : World} {v : Value} {ws : List Nat} (h : SegAt w v ws) (off x : Nat) (hlt : off < 18446744073709551616) (ho : stands ws off) (hx : ws.getD (off / 8) 0 = x) :
    Calls Tryz.prog 32 #[v, .int .u64 off] w fun e w' => e = .returned (.tuple #[.int .u64 x, .int .i64 0]) ∧ w.grownBy w' none := by
  have hd := decide_eq_true ho
  have hc := has_any h off hlt
  rw [hd] at hc
  obtain ⟨B, D, rfl, hs⟩ := h.isSeg ho
  have hs1 : IsSeg (w.alloc (.cells #[.int .u64 0] 22)) B D ws := hs.later (World.grownBy_alloc _ _ _)
  have hx64 : low x 8 = x := low_all x (by rw [← hx]; exact getD_lt hs.words _)
  have H := Lib.hid hx
  have HL := Lib.hid hx64
  clear hx hx64
  go_enter Tryz.func32, Tryz.ntmps32
  go_wp2_with (first | (go_at_call 22; refine hc.mono ?_; rintro e w' ⟨rfl, rfl⟩) | (go_at_call 23; refine (each_load hs1 off x ho H.out (Nat.ne_of_gt hs.ltB) (Nat.ne_of_gt hs.ltD) (heap_alloc_new' _ _)).mono ?_; rintro e w1 ⟨rfl, R⟩; have hcell := cell_of_one R.cell))
  go_ret2
  exact ⟨by rw [HL.out]; rfl, grown_new (grown_trans (World.grownBy_alloc _ _ _) R.grown) (Nat.le_refl _)⟩
theorem load_any {w : World} {v : Value} {ws : List Nat} (h : SegAt w v ws) (off : Nat) (hlt : off < 18446744073709551616) :
    Calls Tryz.prog 32 #[v, .int .u64 off] w fun e w' => e = .returned (.tuple #[.int .u64 (getW ws off : Nat), .int .i64 (errW ws off : Nat)]) ∧ w.grownBy w' none := by
  by_cases ho : stands ws off
  · have := load_yes h off _ hlt ho rfl
    unfold getW errW
    rw [if_pos ho, if_pos ho]
    exact this
  · have := load_no h off hlt ho
    unfold getW errW
    rw [if_neg ho, if_neg ho]
    exact this
end Go.Proofs.YtmcnpenihoaajaaGreat
namespace Go.Proofs.YtmcnpenihoaajaaGreat
open Go.RowKit
theorem byte_num (v i : Nat) (hi : i < 8) : IntKind.u8.wrap ((v : Int) / 2 ^ (8 * i)) = (wb v i : Nat) := by
  have e : (v : Int) / 2 ^ (8 * i) = ((v / 256 ^ i : Nat) : Int) := by
    have e2 : (2 : Nat) ^ (8 * i) = 256 ^ i := by rw [Nat.pow_mul]
    rw [← e2]
    simp
  rw [e]
  unfold wb
  generalize v / 256 ^ i = q
  rw [IntKind.wrap_u8]
  omega
theorem store1_at (v i : Nat) (hi : i < 8) (hv : v < 18446744073709551616) (V D o : Nat) (w : World) (u : Value)
    (hV : w.cell? ⟨V, 0, none⟩ = some (.int .u64 v)) (hd : w.cell? ⟨D, o, none⟩ = some u) (hf : w.frozen? ⟨D, o, none⟩ = false) :
    Calls Tryz.prog 24 #[.pointer (some ⟨D, o, none⟩), .int .u64 (8 * i : Nat), .pointer (some ⟨V, 0, none⟩)] w fun e w' => e = .returned (.tuple #[]) ∧ w.setCell ⟨D, o, none⟩ (.int .u8 (wb v i)) = w' := by
  have hl := byte_num v i hi
  go_enter Tryz.func24, Tryz.ntmps24
  go_wp2
  go_end0
  exact ⟨rfl, rfl⟩
def mixN (ws : List Nat) (off v k j : Nat) : Nat := if off ≤ j ∧ j < off + k then wb v (j - off) else byteN ws j
theorem mix_zero (ws : List Nat) (off v n : Nat) : rowOf (mixN ws off v 0) n = rowOf (byteN ws) n :=
  rowOf_congr fun j _ => by unfold mixN; rw [if_neg (by omega)]
theorem mix_next (ws : List Nat) (off v k n : Nat) : (rowOf (mixN ws off v k) n).setIfInBounds (off + k) (.int .u8 (wb v k : Nat)) = rowOf (mixN ws off v (k + 1)) n := by
  rw [rowOf_set]
  refine rowOf_congr fun j _ => ?_
  unfold mixN
  by_cases e : j = off + k
  · subst e
    rw [if_pos rfl, if_pos (by omega), show off + k - off = k by omega]
  · rw [if_neg e]
    by_cases e2 : off ≤ j ∧ j < off + k
    · rw [if_pos e2, if_pos (by omega)]
    · rw [if_neg e2, if_neg (by omega)]
theorem mix_all (ws : List Nat) (off v : Nat) (h : stands ws off) : rowOf (mixN ws off v 8) (8 * ws.length) = rowOf (byteN (put ws off v)) (8 * (put ws off v).length) := by
  rw [put_len]
  refine rowOf_congr fun j hj => ?_
  rw [byteN_put ws off v j h hj]
  rfl
structure StoreRel (w : World) (D : Nat) (ws : List Nat) (off v k : Nat) (wr : World) : Prop where
  grown : w.grownBy wr (some D)
  data : wr.heap[D]? = some (.cells (rowOf (mixN ws off v k) (8 * ws.length)) 5 (0, 0))
theorem StoreRel.next {w wr : World} {D : Nat} {ws : List Nat} {off v k : Nat} (R : StoreRel w D ws off v k wr) :
    StoreRel w D ws off v (k + 1) (wr.setCell ⟨D, off + k, none⟩ (.int .u8 (wb v k : Nat))) where
  grown := grown_trans R.grown (grown_set _ _ _ _)
  data := by rw [heap_setCell_same R.data, mix_next]
set_option maxHeartbeats 400000 in
theorem each_store {w : World} {B D V : Nat} {ws : List Nat} (h : IsSeg w B D ws) (off v : Nat) (ho : stands ws off) (hv : v < 18446744073709551616) (hVB : V ≠ B) (hVD : V ≠ D)
    (hV : w.heap[V]? = some (.cells #[.int .u64 v] 22 (0, 0))) :
    Calls Tryz.prog 23 #[.pointer (some ⟨B, 0, none⟩), .int .u64 off, .func (.func 24) #[] #[.pointer (some ⟨V, 0, none⟩)]] w
      fun e w' => e = .returned (.tuple #[]) ∧ StoreRel w D ws off v 8 w' := by
  have h1 := h.hd
  have h2 := h.most
  have h4 : off % 8 = 0 := ho.1
  have h6 : off + 8 ≤ 8 * ws.length := by have := ho.2; omega
  have H4 := Lib.hid h4
  clear h4
  have R0 : StoreRel w D ws off v 0 w := ⟨grown_refl _ _, by rw [mix_zero]; exact h.data⟩
  have hVl := lt_of_block hV
  go_enter Tryz.func23, Tryz.ntmps23
  go_wp2
  simp only [eight_less]
  go_loopw [7, 18] (fun _ i wr => ∃ k : Nat, k ≤ 8 ∧ i = .int .i64 k ∧ StoreRel w D ws off v k wr) (fun _ i _ => 8 - (intOf i).toNat)
  case atStart => exact ⟨0, Nat.zero_le _, rfl, R0⟩
  case round =>
    obtain ⟨k, hk, rfl, R⟩ := hrel
    clear R0 h1
    by_cases hlt : k < 8
    · have hVr : wr.cell? ⟨V, 0, none⟩ = some (.int .u64 v) := cell_of_one ((R.grown.block V hVl (by simpa using hVD)).trans hV)
      have hb := cell_of_row R.data (off + k) (by omega)
      go_wp2_with (go_at_call 24; refine (store1_at v k hlt hv V D (off + k) _ _ hVr hb (free_of_row R.data _)).mono ?_; rintro e w' ⟨rfl, rfl⟩)
      go_roundw
      case rel => exact ⟨k + 1, by omega, by go_num, R.next⟩
      case measure => simp [intOf]; omega
    · obtain rfl : k = 8 := by omega
      go_wp2
      go_end0
      exact ⟨rfl, R⟩
theorem store_no {w : World} {p : Value} {ws : List Nat} (h : SegAt w p ws) (off v : Nat) (hlt : off < 18446744073709551616) (ho : ¬ stands ws off) :
    Calls Tryz.prog 8 #[p, .int .u64 off, .int .u64 v] w fun e w' => e = .returned (.int .i64 1) ∧ w.grownBy w' none := by
  have hd := decide_eq_false ho
  have h' : SegAt (w.alloc (.cells #[.int .u64 v] 22)) p ws := by
    rcases h with h | ⟨B, D, rfl, h⟩
    · exact .inl h
    · exact .inr ⟨B, D, rfl, h.later (World.grownBy_alloc _ _ _)⟩
  have hc := has_any h' off hlt
  rw [hd] at hc
  go_enter Tryz.func8, Tryz.ntmps8
  go_wp2_with (go_at_call 22; refine hc.mono ?_; rintro e w' ⟨rfl, rfl⟩)
  go_ret
  exact ⟨rfl, World.grownBy_alloc _ _ _⟩
theorem store_yes {w : World} {B D : Nat} {ws : List Nat} (h : IsSeg w B D ws) (off v : Nat) (hlt : off < 18446744073709551616) (hv : v < 18446744073709551616) (ho : stands ws off) :
    Calls Tryz.prog 8 #[.pointer (some ⟨B, 0, none⟩), .int .u64 off, .int .u64 v] w fun e w' => e = .returned (.int .i64 0) ∧ w.grownBy w' (some D) ∧ IsSeg w' B D (put ws off v) := by
  have hd := decide_eq_true ho
  have hs1 : IsSeg (w.alloc (.cells #[.int .u64 v] 22)) B D ws := h.later (World.grownBy_alloc _ _ _)
  have hc := has_any (.inr ⟨B, D, rfl, hs1⟩) off hlt
  rw [hd] at hc
  go_enter Tryz.func8, Tryz.ntmps8
  go_wp2_with (first | (go_at_call 22; refine hc.mono ?_; rintro e w' ⟨rfl, rfl⟩) | (go_at_call 23; refine (each_store hs1 off v ho hv (Nat.ne_of_gt h.ltB) (Nat.ne_of_gt h.ltD) (heap_alloc_new' _ _)).mono ?_; rintro e w1 ⟨rfl, R⟩))
  go_ret
  refine ⟨rfl, grown_trans (grown_any (World.grownBy_alloc _ _ _) _) R.grown, ?_⟩
  exact {
    head := by rw [put_len]; exact (R.grown.block B hs1.ltB (by simpa using h.ne)).trans hs1.head
    data := by rw [← mix_all ws off v ho]; exact R.data
    ne := h.ne
    words := put_lt h.words hv
    some1 := by rw [put_len]; exact h.some1
    most := by rw [put_len]; exact h.most }
theorem store_any {w : World} {B D : Nat} {ws : List Nat} (h : IsSeg w B D ws) (off v : Nat) (hlt : off < 18446744073709551616) (hv : v < 18446744073709551616) :
    Calls Tryz.prog 8 #[.pointer (some ⟨B, 0, none⟩), .int .u64 off, .int .u64 v] w fun e w' => e = .returned (.int .i64 (errW ws off : Nat)) ∧ w.grownBy w' (some D) ∧ IsSeg w' B D (put ws off v) := by
  unfold errW
  by_cases ho : stands ws off
  · rw [if_pos ho]; exact store_yes h off v hlt hv ho
  · rw [if_neg ho]
    refine (store_no (.inr ⟨B, D, rfl, h⟩) off v hlt ho).mono ?_
    rintro e w' ⟨rfl, hg⟩
    refine ⟨rfl, grown_any hg _, ?_⟩
    unfold put
    rw [if_neg ho]
    exact h.later hg
end Go.Proofs.YtmcnpenihoaajaaGreat
namespace Go.Proofs.YtmcnpenihoaajaaGreat
open Go.RowKit
theorem info_byte : (Tryz.prog.info? 5).map (fun i => (i.zero, i.size, i.bytes)) = some (some (.int .u8 0), 1, 1) := by kernel_rfl
theorem size_byte : (Tryz.prog.info? 5).map (·.size) = some 1 := by kernel_rfl
theorem make_bytes (k : IntKind) (n : Nat) (hn : n ≤ 1048576) (w : World) :
    (Instr.makeSlice 49 (.int k n) (.int k n)).run Tryz.prog w = .ok (.slice (some ⟨w.heap.size, 0, none⟩) n n) (w.alloc (.cells (rowOf (fun _ => 0) n) 5)) := by
  obtain ⟨i, hi, hz, hs, hb⟩ := info_parts info_byte
  have h := run_make (P := Tryz.prog) w 49 5 i _ Tryz.underlying49 hi hz k k n n (by omega) (Int.le_refl _) (by rw [hb]; omega) (by omega)
  rw [h, hs]
  simp only [Int.toNat_natCast, Nat.mul_one]
  rw [show (Value.int .u8 0).cells = #[.int .u8 0] from rfl, made_row]
def may (n : Nat) : Prop := n ≠ 0 ∧ n % 8 = 0 ∧ n ≤ 1048576
instance (n : Nat) : Decidable (may n) := by unfold may; infer_instance
theorem zeros_row (m : Nat) : rowOf (fun _ => 0) (8 * m) = rowOf (byteN (List.replicate m 0)) (8 * (List.replicate m 0).length) := by
  rw [List.length_replicate]
  refine rowOf_congr fun j hj => ?_
  unfold byteN
  have : (List.replicate m 0).getD (j / 8) 0 = 0 := by
    rw [List.getD_eq_getElem?_getD, List.getElem?_replicate]
    split <;> rfl
  rw [this]
  simp [wb]
theorem new_yes (m : Nat) (h1 : 1 ≤ m) (hm : m ≤ 131072) (w : World) :
    Calls Tryz.prog 6 #[.int .u64 (8 * m : Nat)] w fun e w' => e = .returned (.pointer (some ⟨w.heap.size + 1, 0, none⟩)) ∧ w.grownBy w' none ∧ IsSeg w' (w.heap.size + 1) w.heap.size (List.replicate m 0) := by
  have hmk := make_bytes .u64 (8 * m) (by omega)
  obtain ⟨n, hn⟩ : ∃ n, n = 8 * m := ⟨_, rfl⟩
  rw [← hn] at hmk ⊢
  have c0 : ((n : Int) == 0) = false := by rw [beq_eq_false_iff_ne]; omega
  have c1 : ((n : Int) % 8 != 0) = false := by rw [bne_eq_false_iff_eq]; omega
  have c2 : ¬ 1048576 < (n : Int) := by omega
  have H := Lib.hid hn
  clear hn
  go_enter Tryz.func6, Tryz.ntmps6
  go_wp2
  go_ret
  refine ⟨rfl, grown_trans (World.grownBy_alloc _ _ _) (World.grownBy_alloc _ _ _), ?_⟩
  have e := H.out
  subst e
  exact {
    head := by
      rw [List.length_replicate]
      have := heap_alloc_new' (w.alloc (.cells (rowOf (fun _ => 0) (8 * m)) 5)) (.cells #[.slice (some ⟨w.heap.size, 0, none⟩) (8 * m) (8 * m)] 51)
      rw [World.size_alloc] at this
      exact this
    data := by
      rw [← zeros_row, Below.heap_alloc _ _ _ (by simp)]
      exact heap_alloc_new' _ _
    ne := by omega
    words := by intro x hx; rw [List.eq_of_mem_replicate hx]; decide
    some1 := by simpa using h1
    most := by simpa using hm }
end Go.Proofs.YtmcnpenihoaajaaGreat
namespace Go.Proofs.YtmcnpenihoaajaaGreat
open Go.RowKit
def cellsU (l : List Nat) : List Value := l.map fun x => .int .u64 (x : Nat)
theorem SegAt.later {w w' : World} {v : Value} {ws : List Nat} (h : SegAt w v ws) (hg : w.grownBy w' none) : SegAt w' v ws := by
  rcases h with h | ⟨B, D, rfl, h⟩
  · exact .inl h
  · exact .inr ⟨B, D, rfl, h.later hg⟩
theorem SegAt.most {w : World} {v : Value} {ws : List Nat} (h : SegAt w v ws) : ws.length ≤ 131072 := by
  rcases h with ⟨_, rfl⟩ | ⟨B, D, rfl, h⟩
  · simp
  · exact h.most
theorem own_kept {w w' : World} {base : Nat} {e : TypeId} {size : Nat} {v : Value} {n : Nat} {xs : List Value} (h : w.ownsRow base e size v n xs) (hg : w.grownBy w' none) : w'.ownsRow base e size v n xs :=
  h.kept hg (by cases v.ownBlock <;> simp)
theorem info_u64 : (Tryz.prog.info? 22).map (fun i => (i.zero, i.size, i.bytes)) = some (some (.int .u64 0), 1, 8) := by kernel_rfl
theorem wpList_append_u64 {w2 : World} {ops : Array Oper} {rest : List Oper} {o : Oper} {a : Act} {Q : Exit → Act → World → Prop} (hgd : o.guard = none) (s x : Operand)
    (ho : o.op = .call { callee := .builtin .append, args := #[s, x], argTypes := #[34, 34] })
    (base : Nat) (v : Value) (n : Nat) (xs : List Value) (hs : a.eval s = v) (hown : w2.ownsRow base 22 1 v n xs) (y : Int)
    (hx : a.eval x = .slice (some ⟨w2.heap.size, 0, none⟩) 1 1) (hn : n ≤ 1000000000) (hbase : base ≤ w2.heap.size)
    (h : ∀ v' w', w'.ownsRow base 22 1 v' (n + 1) (xs ++ [.int .u64 y]) → (w2.alloc (.cells #[.int .u64 y] 22)).grownBy w' v.ownBlock → wpList Tryz.prog ops Q rest (a.put o.dst v') w') :
    wpList Tryz.prog ops Q (o :: rest) a (w2.alloc (.cells #[.int .u64 y] 22)) := by
  obtain ⟨i0, hi, hz0, hz1, hz2⟩ := info_parts info_u64
  refine wpList_append_own _ hgd s x 34 ho base 22 i0 (.int .u64 0) 1 8 Tryz.underlying34 hi hz0 hz1 hz2 rfl (by decide) v n xs hs (hown.alloc _) ⟨w2.heap.size, 0, none⟩ 1 1 [.int .u64 y] hx rfl ?_ ?_ ?_ ?_ ?_ fun v' w' h1 h2 _ => h v' w' h1 h2
  · intro j u hj
    rcases j with _ | j
    · simp at hj
      subst hj
      exact World.cell?_alloc_at _ _ _ _ rfl
    · simp at hj
  · intro u hu
    simp at hu
    subst hu
    rfl
  · unfold maxLen; omega
  · omega
  · rw [World.size_alloc]; omega
end Go.Proofs.YtmcnpenihoaajaaGreat
namespace Go.Proofs.YtmcnpenihoaajaaGreat
open Go.RowKit
set_option maxRecDepth 100000
theorem copy_whole {w : World} {D G n : Nat} {f g : Nat → Nat} (h : w.heap[D]? = some (.cells (rowOf f n) 5 (0, 0))) (h' : w.heap[G]? = some (.cells (rowOf g n) 5 (0, 0))) (c c' : Nat) (t : TypeId) :
    (Builtin.copy_ #[49, 49] t #[.slice (some ⟨G, 0, none⟩) n c, .slice (some ⟨D, 0, none⟩) n c']).run Tryz.prog w = .ok (goInt n) (w.setRow G (rowOf f n)) := by
  have hl : (rowOf f n).toList.length = n := by simp [size_rowOf]
  have hr := run_copy_row (P := Tryz.prog) w 49 49 t 5 G 0 n c ⟨D, 0, none⟩ n c' (rowOf g n) 5 (rowOf f n).toList Tryz.underlying49 size_byte h' (by rw [hl]; exact (Nat.min_self n).symm)
    (by
      intro j v hj
      have hjn : j < n := by
        rcases Nat.lt_or_ge j n with h' | h'
        · exact h'
        · rw [List.getElem?_eq_none (by rw [hl]; exact h')] at hj; exact absurd hj (by simp)
      have hv : v = .int .u8 (f j : Nat) := by
        have := rowOf_at f n j hjn
        rw [Array.getElem?_toList, this] at hj
        exact (Option.some.inj hj).symm
      have hadd : (⟨D, 0, none⟩ : Addr).add j = ⟨D, j, none⟩ := by unfold Addr.add; split <;> simp_all
      rw [hadd, hv]
      exact cell_of_row h j hjn)
    (by rw [hl, size_rowOf]; omega) (rowOf_one _ _)
  rw [hr, hl]
  congr 2
  rw [List.take_zero, List.nil_append, List.drop_of_length_le (by simp [size_rowOf]), List.append_nil]
end Go.Proofs.YtmcnpenihoaajaaGreat
namespace Go.Proofs.YtmcnpenihoaajaaGreat
open Go.RowKit
def OwnW (w : World) (base : Nat) (v : Value) (ws : List Nat) : Prop := w.ownsRow base 22 1 v ws.length (cellsU ws)
theorem OwnW.later {w w' : World} {base : Nat} {v : Value} {ws : List Nat} (h : OwnW w base v ws) (hg : w.grownBy w' none) : OwnW w' base v ws := own_kept h hg
theorem OwnW.slice {w : World} {base : Nat} {v : Value} {ws : List Nat} (h : OwnW w base v ws) : ∃ a c, v = .slice a ws.length c := by
  rcases h.2 with ⟨h1, h2⟩ | ⟨g, cap, cur, hv, _⟩
  · exact ⟨none, 0, by rw [h1, h2]⟩
  · exact ⟨_, _, hv⟩
theorem OwnW.mono {w : World} {base base' : Nat} {v : Value} {ws : List Nat} (h : OwnW w base v ws) (hb : base' ≤ base) : OwnW w base' v ws := World.ownsRow.mono h hb
theorem OwnW.at_ {w : World} {base g c : Nat} {ws : List Nat} (h : OwnW w base (.slice (some ⟨g, 0, none⟩) ws.length c) ws) (j : Nat) (hj : j < ws.length) : w.cell? ⟨g, j, none⟩ = some (.int .u64 (ws.getD j 0 : Nat)) := by
  have := World.ownsRow.cellAt h j (by omega)
  rw [this]
  simp [cellsU, List.getElem?_eq_getElem hj]
theorem make_words (n : Nat) (hn : n ≤ 1048576) (w : World) :
    (Instr.makeSlice 34 (.int .u64 n) (.int .u64 n)).run Tryz.prog w = .ok (.slice (some ⟨w.heap.size, 0, none⟩) n n) (w.alloc (.cells (madeCells #[.int .u64 0] n) 22)) := by
  obtain ⟨i, hi, hz, hs, hb⟩ := info_parts info_u64
  have h := run_make (P := Tryz.prog) w 34 22 i _ Tryz.underlying34 hi hz .u64 .u64 n n (by omega) (Int.le_refl _) (by rw [hb]; omega) (by omega)
  rw [h, hs]
  simp only [Int.toNat_natCast, Nat.mul_one]
  rfl
theorem OwnW.addr {w : World} {base : Nat} {v : Value} {ws : List Nat} (h : OwnW w base v ws) : ∃ a c g, v = .slice a ws.length c ∧ (0 < ws.length → a = some ⟨g, 0, none⟩) ∧ ∀ w', OwnW w' base v ws → ∀ j, j < ws.length → w'.cell? ⟨g, j, none⟩ = some (.int .u64 (ws.getD j 0 : Nat)) := by
  rcases h.2 with ⟨h1, h2⟩ | ⟨g, cap, cur, hv, _⟩
  · exact ⟨none, 0, 0, by rw [h1, h2], fun h => by omega, fun w' _ j hj => by omega⟩
  · exact ⟨_, cap, g, hv, fun _ => rfl, fun w' h' j hj => by rw [hv] at h'; exact OwnW.at_ h' j hj⟩
end Go.Proofs.YtmcnpenihoaajaaGreat
namespace Go.Proofs.YtmcnpenihoaajaaGreat
open Go.RowKit
structure Turned (p : Nat → Prop) (w w' : World) : Prop where
  os : w'.os = w.os
  tape : w'.tape = w.tape
  output : w'.output = w.output
  size : w.heap.size ≤ w'.heap.size
  block : ∀ k, k < w.heap.size → ¬ p k → w'.heap[k]? = w.heap[k]?
theorem Turned.refl (p : Nat → Prop) (w : World) : Turned p w w := ⟨rfl, rfl, rfl, Nat.le_refl _, fun _ _ _ => rfl⟩
theorem Turned.mono {p q : Nat → Prop} {w w' : World} (h : Turned p w w') (hq : ∀ k, k < w.heap.size → p k → q k) : Turned q w w' :=
  ⟨h.os, h.tape, h.output, h.size, fun k hk hn => h.block k hk (fun hp => hn (hq k hk hp))⟩
theorem Turned.of_grown {w w' : World} {row : Option Nat} (h : w.grownBy w' row) : Turned (fun k => row = some k) w w' :=
  ⟨h.os, h.tape, h.output, h.size, fun k hk hn => h.block k hk (fun e => hn e.symm)⟩
theorem Turned.of_none {w w' : World} (h : w.grownBy w' none) (p : Nat → Prop) : Turned p w w' :=
  ⟨h.os, h.tape, h.output, h.size, fun k hk _ => h.block k hk (by simp)⟩
theorem Turned.trans {p q : Nat → Prop} {a b c : World} (h : Turned p a b) (k : Turned q b c) (hq : ∀ i, q i → p i ∨ a.heap.size ≤ i) : Turned p a c :=
  ⟨k.os.trans h.os, k.tape.trans h.tape, k.output.trans h.output, Nat.le_trans h.size k.size, fun i hi hn =>
    (k.block i (Nat.lt_of_lt_of_le hi h.size) (fun hk => by
      rcases hq i hk with h' | h'
      · exact hn h'
      · omega)).trans (h.block i hi hn)⟩
theorem Turned.later {p : Nat → Prop} {a b c : World} (h : Turned p a b) (k : b.grownBy c none) : Turned p a c := h.trans (Turned.of_none k (fun _ => False)) (fun _ hf => hf.elim)
theorem Turned.first {p : Nat → Prop} {a b c : World} (h : a.grownBy b none) (k : Turned p b c) : Turned p a c := (Turned.of_none h p).trans k (fun _ hp => .inl hp)
theorem Turned.grown {p : Nat → Prop} {a b : World} (h : Turned p a b) (hp : ∀ i, p i → a.heap.size ≤ i) : a.grownBy b none :=
  ⟨h.os, h.tape, h.output, h.size, fun i hi _ => h.block i hi (fun hk => by have := hp i hk; omega)⟩
theorem Turned.heap {p : Nat → Prop} {w w' : World} (h : Turned p w w') {b : Nat} {o : Obj} (hb : w.heap[b]? = some o) (hn : ¬ p b) : w'.heap[b]? = some o := (h.block b (lt_of_block hb) hn).trans hb
theorem Turned.row {w w' : World} {k : Nat} (h : Turned (fun i => i = k) w w') : w.grownBy w' (some k) :=
  ⟨h.os, h.tape, h.output, h.size, fun i hi hn => h.block i hi (fun e => hn (congrArg some e))⟩
section
variable {p : Nat → Prop} {w w' : World}
theorem IsSeg.turned {B D : Nat} {ws : List Nat} (h : IsSeg w B D ws) (ht : Turned p w w') (hB : ¬ p B) (hD : ¬ p D) : IsSeg w' B D ws where
  head := ht.heap h.head hB
  data := ht.heap h.data hD
  ne := h.ne
  words := h.words
  some1 := h.some1
  most := h.most
theorem row_turned {base : Nat} {e : TypeId} {size : Nat} {v : Value} {n : Nat} {xs : List Value} (h : w.ownsRow base e size v n xs) (ht : Turned p w w') (hne : ∀ g, v.ownBlock = some g → ¬ p g) : w'.ownsRow base e size v n xs := by
  refine ⟨h.1, ?_⟩
  rcases h.2 with hn | ⟨g, cap, cur, rfl, hb, hgg, rest⟩
  · exact .inl hn
  · exact .inr ⟨g, cap, cur, rfl, hb, ht.heap hgg (hne g rfl), rest⟩
theorem map_turned {H : Type} {P : Program} {k : TypeId} {R : Value → Option (DataW H × List MemPlace)} {b n : Nat} {D : DataW H} (h : w.ownsMap P k R b n D) (ht : Turned p w w') (hb : ¬ p b) : w'.ownsMap P k R b n D := by
  obtain ⟨es, clock, h1, rest⟩ := h
  exact ⟨es, clock, ht.heap h1 hb, rest⟩
end
theorem row_block {w : World} {base : Nat} {e : TypeId} {size : Nat} {v : Value} {n : Nat} {xs : List Value} (h : w.ownsRow base e size v n xs) {g : Nat} (hg : v.ownBlock = some g) : base ≤ g ∧ ∃ cur, w.heap[g]? = some (.cells cur e (0, 0)) := by
  rcases h.2 with ⟨rfl, _⟩ | ⟨g', cap, cur, rfl, hb, hgg, _⟩
  · cases hg
  · injection hg with hg
    subst hg
    exact ⟨hb, cur, hgg⟩
theorem map_block {H : Type} {w : World} {P : Program} {k : TypeId} {R : Value → Option (DataW H × List MemPlace)} {b n : Nat} {D : DataW H} (h : w.ownsMap P k R b n D) : ∃ es clock, w.heap[b]? = some (.map es clock) := by
  obtain ⟨es, clock, h1, _⟩ := h
  exact ⟨es, clock, h1⟩
theorem map_tight {H : Type} {w : World} {P : Program} {k : TypeId} {R : Value → Option (DataW H × List MemPlace)} {b n : Nat} {D : DataW H} (h : w.ownsMap P k R b n D) : w.ownsMap P k R b (Maps.size D) D := by
  obtain ⟨es, clock, h1, F, _, rfl⟩ := h
  exact ⟨es, clock, h1, F, by simp [Maps.size, length_sorted], rfl⟩
theorem ne_type {w : World} {a b : Nat} {c c' : Array Value} {t t' : TypeId} {f f' : Nat × Nat} (h : w.heap[a]? = some (.cells c t f)) (h' : w.heap[b]? = some (.cells c' t' f')) (hne : t ≠ t') : a ≠ b := by
  intro e
  subst e
  rw [h] at h'
  injection h' with h'
  injection h' with _ h2 _
  exact hne h2
theorem ne_map {w : World} {a b : Nat} {c : Array Value} {t : TypeId} {f : Nat × Nat} {es : Array MapEntry} {clock : Nat} (h : w.heap[a]? = some (.cells c t f)) (h' : w.heap[b]? = some (.map es clock)) : a ≠ b := by
  intro e
  subst e
  rw [h] at h'
  cases h'
end Go.Proofs.YtmcnpenihoaajaaGreat
