/-
  Texts of one layer, one behind the other: memory, contracts of the functions, and what follows of them.
  Conditions: as each theorem says.
-/
import Derived.Test.YtcbdbflgfhbikaaGreatLPhb
import Derived.Test.YtcbdbflgfhbikaaGreatLTaa
import Derived.StillTailTactics
import Derived.Deep.RegionHeld3
import Derived.Deep.QuietTactic
import Derived.BigQuiet
import Derived.Test.YtcbdbflgfhbikaaGreatLTxb
import Derived.Test.YtcbdbflgfhbikaaGreatLTxa
import Derived.RangeFuncCalls
import Derived.TacticsInMore
import Derived.OrdersIn
import Derived.Test.YtcbdbflgfhbikaaGreatLSea
import Derived.Test.YtcbdbflgfhbikaaGreatLHeb
import Derived.Test.YtcbdbflgfhbikaaGreatLWoa
import Derived.Test.YtcbdbflgfhbikaaGreatLPha
import Derived.Test.YtcbdbflgfhbikaaGreatRows
import Derived.Lib.SmallJoins
import Derived.Deep.SlicePairs
import Derived.ProofKit
import Derived.OpenShut
import Derived.Carry
import Derived.ChangeOld
import Derived.SizedLaws
set_option linter.unusedVariables false
set_option linter.unusedSimpArgs false
namespace Go.Proofs.YtcbdbflgfhbikaaGreat
open Go.RowKit
def Blk.val (b : Blk) : Value := .agg #[.int .u64 (b.off : Nat), .int .u64 (b.s : Nat), .bool b.u, .int .i64 b.o, .int .u64 (b.n : Nat)]
set_option maxHeartbeats 2000000 in
theorem beside_any {g cb : Nat} (eg : ∀ args w, (callFunc g args).run Tryz.prog w = .ok (.enter g args) w) {p : Blk → Bool} {w : World} {la : Option Addr} {c : Nat} {l : List Blk} (h : BlksAt w la l) (hl : l.length ≤ 1000000) (ha : Asks g cb p w) (d : Int) (hd : -1 ≤ d ∧ d ≤ 1) :
    Calls Tryz.prog 41 #[.slice la l.length c, .int .i64 d, .func (.func g) #[] #[.pointer (some ⟨cb, 0, none⟩)]] w fun e w' => e = .returned (.tuple #[(besB p l d).val, .bool (besN p l d).isSome]) ∧ w.grownBy w' none := by
  have hg0 : w.grownBy (w.alloc (.cells #[.int .u64 0, .int .u64 0, .bool false, .int .i64 0, .int .u64 0] 45)) none := World.grownBy_alloc _ _ _
  have hix : ∀ wr, (w.alloc (.cells #[.int .u64 0, .int .u64 0, .bool false, .int .i64 0, .int .u64 0] 45)) = wr → Calls Tryz.prog 83 #[.slice la l.length c, .func (.func g) #[] #[.pointer (some ⟨cb, 0, none⟩)]] wr _ := fun wr e => by
    subst e
    exact indexfunc_any eg (h.later hg0) hl (ha.later hg0)
  unfold besB
  cases hf : fstN p l with
  | none =>
    have hz : fstZ p l = -1 := by unfold fstZ; rw [hf]
    have hb : besN p l d = none := by unfold besN; rw [hf]
    rw [hz] at hix
    rw [hb]
    obtain ⟨n, hn⟩ : ∃ n, l.length = n := ⟨_, rfl⟩
    rw [hn] at hix ⊢
    clear hn hz hb hf h ha hl
    go_enter Tryz.func41, Tryz.ntmps41
    go_wp2_with (go_at_call 83; (with_reducible refine (hix _ rfl).mono ?_); rintro e w1 ⟨rfl, hg1⟩; have HB := Lib.hid (five_first hg1); obtain ⟨d0, d1, d2, d3, d4⟩ := five_cells HB.out; obtain ⟨f0, f1, f2, f3, f4⟩ := five_frozen HB.out)
    have hb := five_put HB.out (x' := .int .u64 0) (y' := .int .u64 0) (z' := .bool false) (p' := .int .i64 0) (q' := .int .u64 0)
    obtain ⟨k0, k1, k2, k3, k4⟩ := five_cells hb
    refine bodyPost_ret (v := .tuple #[.agg #[.int .u64 0, .int .u64 0, .bool false, .int .i64 0, .int .u64 0], .bool false]) (by simp [results, Tryz.results41, go_sem, k0, k1, k2, k3, k4]) rfl ?_
    exact ⟨rfl, five_grown (grown_trans hg0 hg1) (Nat.le_refl _)⟩
  | some i =>
    have hi := (fstN_some hf).1
    have hz : fstZ p l = (i : Int) := by unfold fstZ; rw [hf]
    rw [hz] at hix
    have hb : besN p l d = if 0 ≤ (i : Int) + d ∧ (i : Int) + d < l.length then some (l.getD ((i : Int) + d).toNat default) else none := by unfold besN; rw [hf]
    obtain ⟨j, hj⟩ : ∃ j, (i : Int) + d = j := ⟨_, rfl⟩
    have e1 : IntKind.i64.wrap ((i : Int) + d) = j := by rw [IntKind.wrap_i64]; omega
    have hi0 : ¬ (i : Int) < 0 := by omega
    rw [hj] at hb
    rw [hb]
    obtain ⟨n, hn⟩ : ∃ n, l.length = n := ⟨_, rfl⟩
    by_cases h0 : j < 0
    · rw [if_neg (by omega)]
      rw [hn] at hix ⊢
      clear hn hz hb hf h ha hl hi hj
      go_enter Tryz.func41, Tryz.ntmps41
      go_wp2_with (go_at_call 83; (with_reducible refine (hix _ rfl).mono ?_); rintro e w1 ⟨rfl, hg1⟩; have HB := Lib.hid (five_first hg1); obtain ⟨d0, d1, d2, d3, d4⟩ := five_cells HB.out; obtain ⟨f0, f1, f2, f3, f4⟩ := five_frozen HB.out)
      have hb := five_put HB.out (x' := .int .u64 0) (y' := .int .u64 0) (z' := .bool false) (p' := .int .i64 0) (q' := .int .u64 0)
      obtain ⟨k0, k1, k2, k3, k4⟩ := five_cells hb
      refine bodyPost_ret (v := .tuple #[.agg #[.int .u64 0, .int .u64 0, .bool false, .int .i64 0, .int .u64 0], .bool false]) (by simp [results, Tryz.results41, go_sem, k0, k1, k2, k3, k4]) rfl ?_
      exact ⟨rfl, five_grown (grown_trans hg0 hg1) (Nat.le_refl _)⟩
    · by_cases h1 : (n : Int) ≤ j
      · rw [if_neg (by omega)]
        rw [hn] at hix ⊢
        clear hn hz hb hf h ha hl hi hj
        go_enter Tryz.func41, Tryz.ntmps41
        go_wp2_with (go_at_call 83; (with_reducible refine (hix _ rfl).mono ?_); rintro e w1 ⟨rfl, hg1⟩; have HB := Lib.hid (five_first hg1); obtain ⟨d0, d1, d2, d3, d4⟩ := five_cells HB.out; obtain ⟨f0, f1, f2, f3, f4⟩ := five_frozen HB.out)
        have hb := five_put HB.out (x' := .int .u64 0) (y' := .int .u64 0) (z' := .bool false) (p' := .int .i64 0) (q' := .int .u64 0)
        obtain ⟨k0, k1, k2, k3, k4⟩ := five_cells hb
        refine bodyPost_ret (v := .tuple #[.agg #[.int .u64 0, .int .u64 0, .bool false, .int .i64 0, .int .u64 0], .bool false]) (by simp [results, Tryz.results41, go_sem, k0, k1, k2, k3, k4]) rfl ?_
        exact ⟨rfl, five_grown (grown_trans hg0 hg1) (Nat.le_refl _)⟩
      · rw [if_pos (by omega)]
        obtain ⟨m, rfl⟩ := Int.eq_ofNat_of_zero_le (by omega : 0 ≤ j)
        have hmn : m < n := by omega
        have hval : ((some (l.getD ((m : Int)).toNat default)).getD Blk.none).val = .agg #[.int .u64 (gO l m : Nat), .int .u64 (gS l m : Nat), .bool (gU l m), .int .i64 (gW l m), .int .u64 (gN l m : Nat)] := rfl
        rw [hval]
        obtain ⟨b, off, rfl, hb, hcs⟩ := (h.later hg0).cells (by omega)
        have hcs' := fun (w1 : World) (hg1 : (w.alloc (.cells #[.int .u64 0, .int .u64 0, .bool false, .int .i64 0, .int .u64 0] 45)).grownBy w1 none) => ((h.later hg0).later hg1).cells (by omega)
        have HC := Lib.hid hcs'
        have HN := Lib.hid hn
        rw [hn] at hix ⊢
        clear hn hz hb hf h ha hl hi hj hcs hcs' hval
        go_enter Tryz.func41, Tryz.ntmps41
        go_wp2_with (go_at_call 83; (with_reducible refine (hix _ rfl).mono ?_); rintro e w1 ⟨rfl, hg1⟩; have HB := Lib.hid (five_first hg1); obtain ⟨d0, d1, d2, d3, d4⟩ := five_cells HB.out; obtain ⟨f0, f1, f2, f3, f4⟩ := five_frozen HB.out; obtain ⟨b2, off2, hbo, hb2, hcs⟩ := HC.out _ hg1; injection hbo with hbo; injection hbo with hbo1 hbo2; subst hbo1; subst hbo2; obtain ⟨c0, c1, c2, c3, c4⟩ := hcs m (by rw [HN.out]; exact hmn); clear hcs)
        have hb := five_put HB.out (x' := .int .u64 (gO l m : Nat)) (y' := .int .u64 (gS l m : Nat)) (z' := .bool (gU l m)) (p' := .int .i64 (gW l m)) (q' := .int .u64 (gN l m : Nat))
        obtain ⟨k0, k1, k2, k3, k4⟩ := five_cells hb
        refine bodyPost_ret (v := .tuple #[.agg #[.int .u64 (gO l m : Nat), .int .u64 (gS l m : Nat), .bool (gU l m), .int .i64 (gW l m), .int .u64 (gN l m : Nat)], .bool true]) (by simp [results, Tryz.results41, go_sem, k0, k1, k2, k3, k4]) rfl ?_
        exact ⟨rfl, five_grown (grown_trans hg0 hg1) (Nat.le_refl _)⟩
set_option maxHeartbeats 1000000 in
theorem before_any {w : World} {la : Option Addr} {c : Nat} {l : List Blk} (h : BlksAt w la l) (hl : l.length ≤ 1000000) (off : Nat) :
    Calls Tryz.prog 118 #[.slice la l.length c, .int .u64 off] w fun e w' => e = .returned (.tuple #[(besB (pO off) l (-1)).val, .bool (besN (pO off) l (-1)).isSome]) ∧ w.grownBy w' none := by
  have hg0 : w.grownBy (w.alloc (.cells #[.int .u64 0, .int .u64 0, .bool false, .int .i64 0, .int .u64 0] 45)) none := World.grownBy_alloc _ _ _
  have hga : (w.alloc (.cells #[.int .u64 0, .int .u64 0, .bool false, .int .i64 0, .int .u64 0] 45)).grownBy ((w.alloc (.cells #[.int .u64 0, .int .u64 0, .bool false, .int .i64 0, .int .u64 0] 45)).alloc (.cells #[.int .u64 off] 23)) none := World.grownBy_alloc _ _ _
  have hb0 := heap_alloc_new' (w.alloc (.cells #[.int .u64 0, .int .u64 0, .bool false, .int .i64 0, .int .u64 0] 45)) (.cells #[.int .u64 off] 23)
  have hbe : Calls Tryz.prog 41 #[.slice la l.length c, .int .i64 (-1), .func (.func 140) #[] #[.pointer (some ⟨(w.alloc (.cells #[.int .u64 0, .int .u64 0, .bool false, .int .i64 0, .int .u64 0] 45)).heap.size, 0, none⟩)]] ((w.alloc (.cells #[.int .u64 0, .int .u64 0, .bool false, .int .i64 0, .int .u64 0] 45)).alloc (.cells #[.int .u64 off] 23)) _ :=
    beside_any (enters_of Tryz.func140 (by kernel_rfl) rfl) ((h.later hg0).later hga) hl (asks_begins off _ (lt_of_block hb0) (cell_of_one hb0)) (-1) (by omega)
  have hbg := fun w => begins_any off w
  obtain ⟨r, hr⟩ : ∃ r, besB (pO off) l (-1) = r := ⟨_, rfl⟩
  obtain ⟨s, hs⟩ : ∃ s, (besN (pO off) l (-1)).isSome = s := ⟨_, rfl⟩
  rw [hr, hs] at hbe ⊢
  simp only [Blk.val] at hbe ⊢
  obtain ⟨n, hn⟩ : ∃ n, l.length = n := ⟨_, rfl⟩
  rw [hn] at hbe ⊢
  rw [World.size_alloc] at hb0 hbe
  clear hr hs hn h hl hb0
  go_enter Tryz.func118, Tryz.ntmps118
  go_wp2_with (first | (go_at_call 120; refine (hbg _).mono ?_; rintro e w1 ⟨rfl, rfl⟩; simp only [World.size_alloc]) | (go_at_call 41; (with_reducible refine hbe.mono ?_); rintro e w2 ⟨rfl, hg2⟩; have HB := Lib.hid (five_first (grown_trans hga hg2)); obtain ⟨d0, d1, d2, d3, d4⟩ := five_cells HB.out; obtain ⟨f0, f1, f2, f3, f4⟩ := five_frozen HB.out))
  have hb := five_put HB.out (x' := .int .u64 (r.off : Nat)) (y' := .int .u64 (r.s : Nat)) (z' := .bool r.u) (p' := .int .i64 r.o) (q' := .int .u64 (r.n : Nat))
  obtain ⟨k0, k1, k2, k3, k4⟩ := five_cells hb
  refine bodyPost_ret (v := .tuple #[.agg #[.int .u64 (r.off : Nat), .int .u64 (r.s : Nat), .bool r.u, .int .i64 r.o, .int .u64 (r.n : Nat)], .bool s]) (by simp [results, Tryz.results118, go_sem, k0, k1, k2, k3, k4]) rfl ?_
  exact ⟨rfl, five_grown (grown_trans hg0 (grown_trans hga hg2)) (Nat.le_refl _)⟩
set_option maxHeartbeats 1000000 in
theorem after_any {w : World} {la : Option Addr} {c : Nat} {l : List Blk} (h : BlksAt w la l) (hl : l.length ≤ 1000000) (off : Nat) :
    Calls Tryz.prog 70 #[.slice la l.length c, .int .u64 off] w fun e w' => e = .returned (.tuple #[(besB (pO off) l (1)).val, .bool (besN (pO off) l (1)).isSome]) ∧ w.grownBy w' none := by
  have hg0 : w.grownBy (w.alloc (.cells #[.int .u64 0, .int .u64 0, .bool false, .int .i64 0, .int .u64 0] 45)) none := World.grownBy_alloc _ _ _
  have hga : (w.alloc (.cells #[.int .u64 0, .int .u64 0, .bool false, .int .i64 0, .int .u64 0] 45)).grownBy ((w.alloc (.cells #[.int .u64 0, .int .u64 0, .bool false, .int .i64 0, .int .u64 0] 45)).alloc (.cells #[.int .u64 off] 23)) none := World.grownBy_alloc _ _ _
  have hb0 := heap_alloc_new' (w.alloc (.cells #[.int .u64 0, .int .u64 0, .bool false, .int .i64 0, .int .u64 0] 45)) (.cells #[.int .u64 off] 23)
  have hbe : Calls Tryz.prog 41 #[.slice la l.length c, .int .i64 (1), .func (.func 140) #[] #[.pointer (some ⟨(w.alloc (.cells #[.int .u64 0, .int .u64 0, .bool false, .int .i64 0, .int .u64 0] 45)).heap.size, 0, none⟩)]] ((w.alloc (.cells #[.int .u64 0, .int .u64 0, .bool false, .int .i64 0, .int .u64 0] 45)).alloc (.cells #[.int .u64 off] 23)) _ :=
    beside_any (enters_of Tryz.func140 (by kernel_rfl) rfl) ((h.later hg0).later hga) hl (asks_begins off _ (lt_of_block hb0) (cell_of_one hb0)) (1) (by omega)
  have hbg := fun w => begins_any off w
  obtain ⟨r, hr⟩ : ∃ r, besB (pO off) l (1) = r := ⟨_, rfl⟩
  obtain ⟨s, hs⟩ : ∃ s, (besN (pO off) l (1)).isSome = s := ⟨_, rfl⟩
  rw [hr, hs] at hbe ⊢
  simp only [Blk.val] at hbe ⊢
  obtain ⟨n, hn⟩ : ∃ n, l.length = n := ⟨_, rfl⟩
  rw [hn] at hbe ⊢
  rw [World.size_alloc] at hb0 hbe
  clear hr hs hn h hl hb0
  go_enter Tryz.func70, Tryz.ntmps70
  go_wp2_with (first | (go_at_call 120; refine (hbg _).mono ?_; rintro e w1 ⟨rfl, rfl⟩; simp only [World.size_alloc]) | (go_at_call 41; (with_reducible refine hbe.mono ?_); rintro e w2 ⟨rfl, hg2⟩; have HB := Lib.hid (five_first (grown_trans hga hg2)); obtain ⟨d0, d1, d2, d3, d4⟩ := five_cells HB.out; obtain ⟨f0, f1, f2, f3, f4⟩ := five_frozen HB.out))
  have hb := five_put HB.out (x' := .int .u64 (r.off : Nat)) (y' := .int .u64 (r.s : Nat)) (z' := .bool r.u) (p' := .int .i64 r.o) (q' := .int .u64 (r.n : Nat))
  obtain ⟨k0, k1, k2, k3, k4⟩ := five_cells hb
  refine bodyPost_ret (v := .tuple #[.agg #[.int .u64 (r.off : Nat), .int .u64 (r.s : Nat), .bool r.u, .int .i64 r.o, .int .u64 (r.n : Nat)], .bool s]) (by simp [results, Tryz.results70, go_sem, k0, k1, k2, k3, k4]) rfl ?_
  exact ⟨rfl, five_grown (grown_trans hg0 (grown_trans hga hg2)) (Nat.le_refl _)⟩
section
variable {w : World} {T M : Nat} {R : Option Nat} {B D : Nat} {ws : List Nat} {l : List (Nat × Nat)}
structure Heap (ws : List Nat) (l : List (Nat × Nat)) (bl : List Blk) (err : Nat) : Prop where
  is : (chkN ws l = 12 ∧ bl = [] ∧ err = 12) ∨ (chkN ws l = 0 ∧ ∃ N ok, Walks (txSee ws l) N ok ∧ bl = wkL (txSee ws l) N ok ∧ err = wkE ok)
  len : bl.length ≤ 1000000
theorem walks_small {ws : List Nat} {l : List (Nat × Nat)} (hm : ws.length ≤ 131072) (hc : chkN ws l = 0) {N : Nat} {ok : Bool} (hw : Walks (txSee ws l) N ok) : N ≤ 1000000 := by
  have h1 := hw.len
  have h2 : chkP ws l := by
    unfold chkN at hc
    split at hc
    · assumption
    · cases hc
  have h3 := h2.1.2.2
  omega
theorem pwalk_any (h : Thinks w T M R B D ws l) {bl : List Blk} {err : Nat} (hb : Heap ws l bl err) :
    Calls Tryz.prog 24 #[.pointer (some ⟨T, 0, none⟩)] w fun e w' => ∃ v, e = .returned (.tuple #[v, .int .i64 (err : Nat)]) ∧ OwnB w' w.heap.size 45 v bl ∧ w.grownBy w' none := by
  rcases hb.is with ⟨hc, rfl, rfl⟩ | ⟨hc, N, ok, hw, rfl, rfl⟩
  · exact (pwalk_no h hc).mono fun e w' ⟨h1, h2⟩ => ⟨_, h1, World.ownsRow_nil _ _ _ _, h2⟩
  · exact pwalk_yes h hc hw (walks_small h.seg.most hc hw)
set_option maxHeartbeats 1000000 in
theorem pfind_any (h : Thinks w T M R B D ws l) {bl : List Blk} {err : Nat} (hb : Heap ws l bl err) (off : Nat) :
    Calls Tryz.prog 14 #[.pointer (some ⟨T, 0, none⟩), .int .u64 off] w fun e w' => e = .returned (.tuple #[(besB (pF off) bl 0).val, .bool (besN (pF off) bl 0).isSome]) ∧ w.grownBy w' none := by
  have hg0 : w.grownBy ((w.alloc (.cells #[.int .u64 off] 23)).alloc (.cells #[.int .u64 0, .int .u64 0, .bool false, .int .i64 0, .int .u64 0] 45)) none := grown_trans (World.grownBy_alloc _ _ _) (World.grownBy_alloc _ _ _)
  have hwk := pwalk_any (h.later hg0) hb
  have hb0 : ((w.alloc (.cells #[.int .u64 off] 23)).alloc (.cells #[.int .u64 0, .int .u64 0, .bool false, .int .i64 0, .int .u64 0] 45)).heap[w.heap.size]? = some (.cells #[.int .u64 off] 23 (0, 0)) := (Below.heap_alloc _ _ _ (by simp)).trans (heap_alloc_new' w _)
  have hb1 : ((w.alloc (.cells #[.int .u64 off] 23)).alloc (.cells #[.int .u64 0, .int .u64 0, .bool false, .int .i64 0, .int .u64 0] 45)).heap[w.heap.size + 1]? = some (.cells #[.int .u64 0, .int .u64 0, .bool false, .int .i64 0, .int .u64 0] 45 (0, 0)) := by
    have := heap_alloc_new' (w.alloc (.cells #[.int .u64 off] 23)) (.cells #[.int .u64 0, .int .u64 0, .bool false, .int .i64 0, .int .u64 0] 45)
    rwa [World.size_alloc] at this
  have hbe := fun (w1 : World) (la : Option Addr) (c : Nat) (hat : BlksAt w1 la bl) (hg : ((w.alloc (.cells #[.int .u64 off] 23)).alloc (.cells #[.int .u64 0, .int .u64 0, .bool false, .int .i64 0, .int .u64 0] 45)).grownBy w1 none) =>
    beside_any (g := 42) (cb := w.heap.size) (c := c) (enters_of Tryz.func42 (by kernel_rfl) rfl) hat hb.len (asks_find off w.heap.size (lt_of_block ((hg.block _ (lt_of_block hb0) (by simp)).trans hb0)) (cell_of_one ((hg.block _ (lt_of_block hb0) (by simp)).trans hb0))) 0 (by omega)
  obtain ⟨r, hr⟩ : ∃ r, besB (pF off) bl 0 = r := ⟨_, rfl⟩
  obtain ⟨s, hs⟩ : ∃ s, (besN (pF off) bl 0).isSome = s := ⟨_, rfl⟩
  rw [hr, hs] at hbe ⊢
  simp only [Blk.val] at hbe ⊢
  clear hr hs hb h
  go_enter Tryz.func14, Tryz.ntmps14
  go_wp2_with (first | (go_at_call 24; refine hwk.mono ?_; rintro e w1 ⟨v, rfl, ho1, hg1⟩; obtain ⟨la, c, hv, hat⟩ := ho1.at_; subst hv) | (go_at_call 41; refine (hbe _ _ _ hat hg1).mono ?_; rintro e w2 ⟨rfl, hg2⟩; have HB := Lib.hid (((grown_trans hg1 hg2).block _ (lt_of_block hb1) (by simp)).trans hb1); obtain ⟨d0, d1, d2, d3, d4⟩ := five_cells HB.out; obtain ⟨f0, f1, f2, f3, f4⟩ := five_frozen HB.out))
  have hb := five_put HB.out (x' := .int .u64 (r.off : Nat)) (y' := .int .u64 (r.s : Nat)) (z' := .bool r.u) (p' := .int .i64 r.o) (q' := .int .u64 (r.n : Nat))
  obtain ⟨k0, k1, k2, k3, k4⟩ := five_cells hb
  refine bodyPost_ret (v := .tuple #[.agg #[.int .u64 (r.off : Nat), .int .u64 (r.s : Nat), .bool r.u, .int .i64 r.o, .int .u64 (r.n : Nat)], .bool s]) (by simp [results, Tryz.results14, go_sem, k0, k1, k2, k3, k4]) rfl ?_
  exact ⟨rfl, five_grown (grown_trans hg0 (grown_trans hg1 hg2)) (by omega)⟩
end
end Go.Proofs.YtcbdbflgfhbikaaGreat
namespace Go.Proofs.YtcbdbflgfhbikaaGreat
open Go.RowKit
theorem info_rblk : (Tryz.prog.info? 61).map (fun i => (i.zero, i.size, i.bytes)) = some (some (.agg #[.int .u64 0, .int .u64 0, .bool false, .int .i64 0, .int .u64 0]), 5, 40) := by kernel_rfl
theorem wpList_append_blk {w2 : World} {base k : Nat} {l : List Blk} {v : Value} (hkl : l.length = k) (hown : OwnB w2 base 61 v l) (hn : l.length ≤ 1000000) (hbase : base ≤ w2.heap.size) (b : Blk)
    {ops : Array Oper} {rest : List Oper} {o : Oper} {a : Act} {Q : Exit → Act → World → Prop} (hgd : o.guard = none) (s x : Operand)
    (ho : o.op = .call { callee := .builtin .append, args := #[s, x], argTypes := #[26, 26] })
    (hs : a.eval s = v) {m : Nat} (hx : a.eval x = .slice (some ⟨m, 0, none⟩) 1 1) (hm : m = w2.heap.size)
    (h : ∀ g cp w', OwnB w' base 61 (.slice (some ⟨g, 0, none⟩) (k + 1) cp) (l ++ [b]) → w2.grownBy w' v.ownBlock → (v.ownBlock = some g ∨ g = w2.heap.size + 1) → wpList Tryz.prog ops Q rest (a.put o.dst (.slice (some ⟨g, 0, none⟩) (k + 1) cp)) w') :
    wpList Tryz.prog ops Q (o :: rest) a (w2.alloc (.cells #[.int .u64 (b.off : Nat), .int .u64 (b.s : Nat), .bool b.u, .int .i64 b.o, .int .u64 (b.n : Nat)] 61)) := by
  subst hkl
  subst hm
  obtain ⟨i0, hi, hz0, hz1, hz2⟩ := info_parts info_rblk
  refine wpList_append_own_at _ hgd s x 26 ho base 61 i0 (.agg #[.int .u64 0, .int .u64 0, .bool false, .int .i64 0, .int .u64 0]) 5 40 Tryz.underlying26 hi hz0 hz1 hz2 rfl (by decide) v l.length (cellsB l) hs (World.ownsRow.alloc hown _) ⟨w2.heap.size, 0, none⟩ 1 1 b.row hx rfl (cells_five_new _ _ _ _ _ _ _) (by simp [Value.oneCell', Blk.row]) (by unfold maxLen; omega) (by omega) (by rw [World.size_alloc]; omega) fun v' w' h1 h2 _ h4 => ?_
  obtain ⟨g, cp, rfl⟩ := ownsRow_succ h1
  refine h g cp w' ?_ (grown_trans (World.grownBy_alloc _ _ _) h2) ?_
  · unfold OwnB
    rw [cellsB_snoc, List.length_append]
    exact h1
  · rw [World.size_alloc] at h4
    rcases h4 with h4 | h4
    · exact .inl h4.symm
    · right; injection h4
section
variable {w : World} {base : Nat} {wv pv : Value} {ws : List Nat} {l : List (Nat × Nat)}
end
end Go.Proofs.YtcbdbflgfhbikaaGreat
namespace Go.Proofs.YtcbdbflgfhbikaaGreat
open Go.RowKit
section
variable {w wr : World} {T M B D bx b6 : Nat} {wv : Value} {ws : List Nat} {l l' : List (Nat × Nat)}
theorem ThMid.told {w4 : World} {pv' : Value} {l2 : List (Nat × Nat)} (h : ThMid w T M B D bx b6 wv ws l l' wr) (hg : wr.grownBy w4 none) (hr : RTx w4 w.heap.size wv pv' ws l2) (hbx : w.heap.size ≤ bx) (hne : bx ≠ b6) :
    ThMid w T M B D bx b6 wv ws l2 l' ((w4.setCell ⟨bx, 0, none⟩ wv).setCell ⟨bx, 1, none⟩ pv') := by
  obtain ⟨R, h1, h2⟩ := h.tx
  obtain ⟨pv, h3, _⟩ := h.box
  have h3' := (hg.block _ (lt_of_block h3) (by simp)).trans h3
  have hs : w4.grownBy ((w4.setCell ⟨bx, 0, none⟩ wv).setCell ⟨bx, 1, none⟩ pv') (some bx) := grown_trans (grown_set _ _ _ _) (grown_set _ _ _ _)
  refine ⟨⟨R, (h1.later hg).other h3' hbx hs, h2⟩, ⟨pv', ?_, hr.other h3' hs⟩, ?_⟩
  · rw [heap_setCell_same (heap_setCell_same h3' wv) pv']; rfl
  · have := (hg.block _ (lt_of_block h.res) (by simp)).trans h.res
    exact (hs.block _ (lt_of_block this) (by simpa using hne.symm)).trans this
theorem ThMid.more (h : ThMid w T M B D bx b6 wv ws l l' wr) (off v : Nat) (ho : off < 18446744073709551616) (hv : v < 18446744073709551616) :
    Calls Tryz.prog 16 #[.pointer (some ⟨T, 0, none⟩), .int .u64 off, .int .u64 v] wr fun e w' => e = .returned (.tuple #[]) ∧ ThMid w T M B D bx b6 wv ws l (txStore ws l' off v) w' := by
  obtain ⟨R, h1, h2⟩ := h.tx
  refine (txstore_any h1.tx off v ho hv).mono ?_
  rintro e w' ⟨rfl, ht⟩
  obtain ⟨R', k1, k2, k3⟩ := h1.step ht
  obtain ⟨pv, h3, h4⟩ := h.box
  refine ⟨rfl, ⟨R', k1, fun g hg => ?_⟩, ⟨pv, k2.heap h3 (h1.tx.far h3 (by decide) (by decide)), ⟨OwnW.past h1.tx k2 h4.words h2, OwnP.past h1.tx k2 h4.puts⟩⟩, k2.heap h.res (h1.tx.far h.res (by decide) (by decide))⟩
  rcases k3 with rfl | ⟨g', rfl, hg'⟩
  · exact h2 g hg
  · intro e
    injection e with e
    obtain ⟨_, cur, hb⟩ := row_block h4.words hg
    have := lt_of_block hb
    omega
end
theorem Txs.from {w W0 w1 : World} {T M : Nat} {R : Option Nat} {B D : Nat} {ws : List Nat} {l : List (Nat × Nat)} (hg : w.grownBy W0 none) (h : Txs W0 w1 T M R B D ws l) : Txs w w1 T M R B D ws l where
  tx := h.tx
  since := grown_trans hg h.since
  newT := Nat.le_trans hg.size h.newT
  newM := Nat.le_trans hg.size h.newM
  newR := fun g e => Nat.le_trans hg.size (h.newR g e)
  newB := Nat.le_trans hg.size h.newB
  newD := Nat.le_trans hg.size h.newD
theorem RTx.mono {w : World} {base base' : Nat} {wv pv : Value} {ws : List Nat} {l : List (Nat × Nat)} (h : RTx w base wv pv ws l) (hb : base' ≤ base) : RTx w base' wv pv ws l := ⟨h.words.mono hb, World.ownsRow.mono h.puts hb⟩
end Go.Proofs.YtcbdbflgfhbikaaGreat
namespace Go.Proofs.YtcbdbflgfhbikaaGreat
open Go.ChangeShapes Go.WideShapes Go.ChangeAt Go.RowKit Go.Deep
theorem cells_u8 : Tryz.prog.cellsOf 5 = 1 := by kernel_rfl
theorem cells_u16 : Tryz.prog.cellsOf 40 = 1 := by kernel_rfl
section
variable {H : Type} {enc : TypeId × Value → H} {w : World}
theorem plain_spot {a : Addr} {v : Value} (h : w.cell? (a.add 0) = some v) : ∃ b off, a = ⟨b, off, none⟩ ∧ b < w.heap.size := by
  obtain ⟨b, off, spot⟩ := a
  have ho : (⟨b, off, spot⟩ : Addr).add 0 = ⟨b, off, spot⟩ := rfl
  rw [ho] at h
  have hb : b < w.heap.size := by
    rcases Nat.lt_or_ge b w.heap.size with h' | h'
    · exact h'
    · simp [World.cell?, Array.getElem?_eq_none h'] at h
  rcases spot with _ | s
  · exact ⟨b, off, rfl, hb⟩
  · exfalso
    unfold World.cell? at h
    simp only at h
    split at h <;> simp at h
end
end Go.Proofs.YtcbdbflgfhbikaaGreat
