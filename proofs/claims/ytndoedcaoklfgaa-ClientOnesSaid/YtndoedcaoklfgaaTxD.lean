/-
  Package tx: what 'words' hands back, as an iterator: it tells each word that is thought of, in turn, whatever the loop's body does that keeps the Tx.
  Conditions: the Tx is nil, or stands in memory.
-/
import Derived.Test.YtndoedcaoklfgaaTxC
import Derived.RangeFuncNested
import Derived.RangeFuncBound
import Derived.RangeFuncCalls
import Derived.RangeFuncLeaves
import Derived.Shelf.Abstract
import Derived.Shelf.RegionOpen
import Derived.OwnWalkIn
import Derived.TacticsInMore
import Derived.LoopNIn
import Derived.LoopIn
import Derived.Maps.OwnIn
namespace Go.Proofs.Ytndoedcaoklfgaa
open Go.RowKit Go.Shelf
set_option linter.unusedVariables false
set_option linter.unusedSimpArgs false
attribute [local go_sem] Oper.semAt_some

/-- the k-th pair's offset, and its word -/
def txX (l : List (Nat × Nat)) (k : Nat) : Nat := (l.getD k (0, 0)).1
def txV (l : List (Nat × Nat)) (k : Nat) : Nat := (l.getD k (0, 0)).2
theorem txX_keys (l : List (Nat × Nat)) (k : Nat) : (txKeys l).getD k 0 = txX l k := by
  unfold txKeys txX
  rw [List.getD_eq_getElem?_getD, List.getD_eq_getElem?_getD, List.getElem?_map]
  cases l[k]? <;> rfl
theorem getD_mem {α : Type} {l : List α} {k : Nat} (d : α) (h : k < l.length) : l.getD k d ∈ l := by
  rw [List.getD_eq_getElem?_getD, List.getElem?_eq_getElem h]
  exact List.getElem_mem h
theorem TxOk.getD {ws : List Nat} {l : List (Nat × Nat)} (h : TxOk ws l) {k : Nat} (hk : k < l.length) : txGet l (txX l k) = some (txV l k) :=
  txGet_of_mem h.once (getD_mem (0, 0) hk)
theorem TxOk.lt {ws : List Nat} {l : List (Nat × Nat)} (h : TxOk ws l) (hm : ws.length ≤ 131072) (k : Nat) : txX l k < 18446744073709551616 ∧ txV l k < 18446744073709551616 := by
  unfold txX txV
  rcases Nat.lt_or_ge k l.length with hk | hk
  · have := getD_mem (0, 0) hk
    exact ⟨by have := h.off_lt hm _ this; omega, h.word _ this⟩
  · rw [List.getD_eq_getElem?_getD, List.getElem?_eq_none hk]
    exact ⟨by decide, by decide⟩

/-- What a body that goes on keeps: the Tx's own blocks, and the variable's box. -/
def TxKeep (T M : Nat) (R : Option Nat) (bx : Nat) (A C : World) : Prop := A.heap.size ≤ C.heap.size ∧ ∀ k, foot T M R k ∨ k = bx → C.heap[k]? = A.heap[k]?
theorem TxKeep.refl (T M : Nat) (R : Option Nat) (bx : Nat) (A : World) : TxKeep T M R bx A A := ⟨Nat.le_refl _, fun _ _ => rfl⟩
theorem TxKeep.trans {T M : Nat} {R : Option Nat} {bx : Nat} {A C E : World} (h : TxKeep T M R bx A C) (k : TxKeep T M R bx C E) : TxKeep T M R bx A E := ⟨Nat.le_trans h.1 k.1, fun i hi => (k.2 i hi).trans (h.2 i hi)⟩
theorem TxKeep.put {T M : Nat} {R : Option Nat} {bx : Nat} {w : World} (hf : ∀ k, foot T M R k → k < w.heap.size) (hb : bx < w.heap.size) (W : World) (l : Nat) (o o' : Obj) (hl : w.heap.size ≤ l) (h : W.heap[l]? = some o) (_ : o.isCells = false) (_ : o.isWalk = false) : TxKeep T M R bx W (W.putObj l o') :=
  ⟨by simp, fun k hk => World.putObj_heap_other (by
    rcases hk with hk | rfl
    · have := hf k hk; omega
    · omega)⟩
theorem TxKeep.grown {T M : Nat} {R : Option Nat} {bx : Nat} {A C : World} {row : Option Nat} (hg : A.grownBy C row) (hf : ∀ k, foot T M R k → k < A.heap.size) (hb : bx < A.heap.size) (hr : ∀ g, row = some g → ¬ foot T M R g ∧ g ≠ bx) : TxKeep T M R bx A C :=
  ⟨hg.size, fun k hk => hg.block k (by
    rcases hk with hk | rfl
    · exact hf k hk
    · exact hb) (fun e => by
      obtain ⟨h1, h2⟩ := hr k e.symm
      rcases hk with hk | hk
      · exact h1 hk
      · exact h2 hk)⟩
/-- A Tx's own memory. -/
structure TxMem (w : World) (T M : Nat) (R : Option Nat) (B : Nat) (tv : Value) (l : List (Nat × Nat)) : Prop where
  head : w.heap[T]? = some (.cells #[.pointer (some ⟨B, 0, none⟩), .map (some M), tv] 94 (0, 0))
  row : OwnW w 0 tv (txKeys l)
  own : tv.ownBlock = R
  map : MapAt w M l
theorem Thinks.mem {w : World} {T M : Nat} {R : Option Nat} {B D : Nat} {ws : List Nat} {l : List (Nat × Nat)} (h : Thinks w T M R B D ws l) : ∃ tv, TxMem w T M R B tv l := by
  obtain ⟨tv, h1, h2, h3⟩ := h.head
  exact ⟨tv, h1, h2, h3, h.map⟩
theorem TxMem.keep {A C : World} {T M : Nat} {R : Option Nat} {B bx : Nat} {tv : Value} {l : List (Nat × Nat)} (h : TxMem A T M R B tv l) (hk : TxKeep T M R bx A C) : TxMem C T M R B tv l where
  head := (hk.2 T (.inl (.inl rfl))).trans h.head
  row := by
    have h1 := h.row
    have h2 := h.own
    unfold OwnW at h1 ⊢
    refine ⟨h1.1, ?_⟩
    rcases h1.2 with hn | ⟨g, cap, cur, rfl, hb, hgg, rest⟩
    · exact .inl hn
    · exact .inr ⟨g, cap, cur, rfl, hb, (hk.2 g (.inl (.inr (.inr h2.symm)))).trans hgg, rest⟩
  own := h.own
  map := by
    obtain ⟨Da, ⟨es, clock, h1, rest⟩, h2⟩ := h.map
    exact ⟨Da, ⟨es, clock, (hk.2 M (.inl (.inr (.inl rfl)))).trans h1, rest⟩, h2⟩

set_option maxRecDepth 100000 in
set_option maxHeartbeats 1000000 in
/-- The closure of 'words', over a Tx: each pair in turn, or as many as the body lets. -/
theorem words1_in (F : Fence) (n : Nat) (hF : F.fn 58) (hro : F.round = none) (hn : 1 ≤ n) (yl bx : Nat) {T M : Nat} {R : Option Nat} {B : Nat} {tv : Value} {ws : List Nat} {l : List (Nat × Nat)} (hok : TxOk ws l) (hm : ws.length ≤ 131072) (J Jx : List Nat → World → Prop)
    (hY : ∀ pre x W, J pre W → pre.length < l.length → YieldAt F (n - 1) Try.prog yl #[.agg #[.int .u64 (txX l x : Nat), .int .u64 (txV l x : Nat)]] W fun e W' =>
      (e = .returned (.bool true) ∧ J (pre ++ [x]) W' ∧ TxKeep T M R bx W W') ∨ (e = .returned (.bool false) ∧ Jx (pre ++ [x]) W'))
    (W : World) (hbx : W.heap[bx]? = some (.cells #[.pointer (some ⟨T, 0, none⟩)] 26 (0, 0))) (hT : TxMem W T M R B tv l) (h0 : J [] W) :
    CallsIn F n Try.prog 58 #[.func (.yield yl) #[] #[], .pointer (some ⟨bx, 0, none⟩)] W fun e W' => (∃ v, e = .returned v) ∧
      ((∃ ys, ys = List.range l.length ∧ J ys W') ∨ (∃ pre, True ∧ Jx pre W')) := by
  have hlen := Nat.le_trans hok.len hm
  obtain ⟨pa, pc, pg, hpv, hpa, hpc⟩ := OwnW.addr hT.row
  rw [txKeys_len] at hpv hpa
  have cb : W.cell? ⟨bx, 0, none⟩ = some (.pointer (some ⟨T, 0, none⟩)) := cell_of_one hbx
  have c2 : W.cell? ⟨T, 2, none⟩ = some tv := by have := hT.head; simp [World.cell?, this]
  subst hpv
  have HPA := Lib.hid hpa
  have HPC := Lib.hid hpc
  clear hpa hpc
  refine callsIn_of_wp Try.func58 rfl hF ?_ hro
  simp only [Try.ntmps58, List.size_toArray, List.length_cons, List.length_nil, Nat.reduceAdd, Nat.reduceSub, Array.replicate_succ, Array.replicate_zero, List.push_toArray, List.append_toArray, List.nil_append, List.cons_append]
  gi_wp2
  gi_loopw [12] (fun i wr => ∃ k : Nat, k ≤ l.length ∧ i = .int .i64 k ∧ J (List.range k) wr ∧ TxKeep T M R bx W wr) (fun i _ => l.length - (intOf i).toNat)
  case atStart => exact ⟨0, Nat.zero_le _, rfl, h0, TxKeep.refl _ _ _ _ _⟩
  case round =>
    obtain ⟨k, hk, rfl, hJ, hkp⟩ := hrel
    have hTr := hT.keep hkp
    clear cb c2 h0
    rcases Nat.lt_or_ge k l.length with h1 | h1
    · have ck := HPC.out wr hTr.row k (by rw [txKeys_len]; exact h1)
      rw [txX_keys] at ck
      have ea := HPA.out (by omega)
      subst ea
      have cb : wr.cell? ⟨bx, 0, none⟩ = some (.pointer (some ⟨T, 0, none⟩)) := cell_of_one ((hkp.2 bx (.inr rfl)).trans hbx)
      have c1 : wr.cell? ⟨T, 1, none⟩ = some (.map (some M)) := by have := hTr.head; simp [World.cell?, this]
      obtain ⟨Da, hown, hsay⟩ := hTr.map
      have hy := fun c h => seen_int (off := txX l k) (c := c) hsay h
      rw [hok.getD h1] at hy
      have HY := Lib.hid hy
      have hX := (hok.lt hm k).1
      obtain ⟨fn, tmps, assign, body, hyy, hR⟩ := hY (List.range k) k wr hJ (by simp; omega)
      rw [← List.range_succ] at hR
      have hJ' := Lib.hid hJ
      clear hy hJ hY
      gi_wp2_with (gi_at_lookup; refine wpListIn_lookup_own_int _ rfl _ _ 92 rfl 24 24 .u64 keyed_u64 Try.underlying92 Try.underlying24 (zero_u64 _) M _ Da rfl hown _ _ rfl (key_u64 _ hX) ?_; intro c hat hwc; obtain rfl := HY.out c hat)
      refine hR.mono ?_
      rintro e W3 (⟨rfl, hJ3, hk3⟩ | ⟨rfl, hJx3⟩)
      · have hk4 := hkp.trans hk3
        gi_wp2
        go_roundw
        case rel => exact ⟨k + 1, by omega, by go_num, hJ3, hk4⟩
        case measure => simp [intOf]; omega
      · gi_wp2
        refine bodyPost_ret (results_none rfl _ _ _) rfl ?_
        exact ⟨⟨_, rfl⟩, .inr ⟨_, trivial, hJx3⟩⟩
    · obtain rfl : k = l.length := by omega
      gi_wp2
      go_end0
      exact ⟨⟨_, rfl⟩, .inl ⟨_, rfl, hJ⟩⟩

/-- The same, as a contract for loops. -/
theorem words_stops (F : Fence) (n : Nat) (hF : F.fn 58) (hro : F.round = none) (hn : 1 ≤ n) (bx : Nat) {T M : Nat} {R : Option Nat} {B : Nat} {tv : Value} {ws : List Nat} {l : List (Nat × Nat)} (hok : TxOk ws l) (hm : ws.length ≤ 131072) {w : World}
    (hbx : w.heap[bx]? = some (.cells #[.pointer (some ⟨T, 0, none⟩)] 26 (0, 0))) (hT : TxMem w T M R B tv l) (hlt : ∀ k, foot T M R k → k < w.heap.size) :
    SeqStopsK F n Try.prog 58 #[.pointer (some ⟨bx, 0, none⟩)] (fun x : Nat => #[.agg #[.int .u64 (txX l x : Nat), .int .u64 (txV l x : Nat)]]) (TxKeep T M R bx) (fun ys => ys = List.range l.length) (fun _ => True) l.length w :=
  fun yl J Jx W hW _ _ hY h0 => by
    have hk : TxKeep T M R bx w W := ⟨hW.size, fun k hk => hW.block k (by
      rcases hk with hk | rfl
      · exact hlt k hk
      · exact lt_of_block hbx)⟩
    exact words1_in F n hF hro hn yl bx hok hm J Jx hY W ((hk.2 bx (.inr rfl)).trans hbx) (hT.keep hk) h0

set_option maxRecDepth 100000 in
/-- The closure of 'words', over a Tx that is nil: nothing. -/
theorem words_stops_nil (F : Fence) (n : Nat) (hF : F.fn 58) (hro : F.round = none) (hn : 1 ≤ n) (bx : Nat) {Kp : World → World → Prop} (enc : Nat → Array Value) {w : World}
    (hbx : w.heap[bx]? = some (.cells #[.pointer none] 26 (0, 0))) :
    SeqStopsK F n Try.prog 58 #[.pointer (some ⟨bx, 0, none⟩)] enc Kp (fun ys => ys = List.range 0) (fun _ => True) 0 w :=
  fun yl J Jx W hW _ _ hY h0 => by
    have cb : W.cell? ⟨bx, 0, none⟩ = some (.pointer none) := cell_of_one ((hW.block bx (lt_of_block hbx)).trans hbx)
    refine callsIn_of_wp Try.func58 rfl hF ?_ hro
    simp only [Try.ntmps58, List.size_toArray, List.length_cons, List.length_nil, Nat.reduceAdd, Nat.reduceSub, Array.replicate_succ, Array.replicate_zero, List.push_toArray, List.append_toArray, List.nil_append, List.cons_append]
    gi_wp2
    refine bodyPost_ret (results_none rfl _ _ _) rfl ?_
    exact ⟨⟨_, rfl⟩, .inl ⟨_, rfl, h0⟩⟩
/-- 'words' boxes its receiver and hands the closure back. -/
theorem words_any (p : Option Addr) (w : World) : Calls Try.prog 38 #[.pointer p] w fun e w' => e = .returned (.func (.func 58) #[] #[.pointer (some ⟨w.heap.size, 0, none⟩)]) ∧ w.alloc (.cells #[.pointer p] 26) = w' := by
  go_enter Try.func38, Try.ntmps38
  go_wp2
  go_ret
  exact ⟨rfl, rfl⟩
end Go.Proofs.Ytndoedcaoklfgaa
