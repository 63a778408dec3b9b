/-
  Package phys: the contracts of beside, Before, After, Find and Merged.
  Conditions: the blocks lie in memory; there are 1000000 at most; the Tx stands in memory.
-/
import Derived.Test.YtmhkibdbamhdoaaPhysD
namespace Go.Proofs.Ytmhkibdbamhdoaa
open Go.RowKit
set_option linter.unusedVariables false
set_option linter.unusedSimpArgs false

/-- a block as a value -/
def Blk.val (b : Blk) : Value := .agg #[.int .u64 (b.off : Nat), .int .u64 (b.s : Nat), .bool b.u, .int .i64 b.o, .int .u64 (b.n : Nat)]
def zeroB : Value := .agg #[.int .u64 0, .int .u64 0, .bool false, .int .i64 0, .int .u64 0]
set_option maxHeartbeats 2000000 in
theorem beside_any {g cb : Nat} (eg : ∀ args w, (callFunc g args).run Try.prog w = .ok (.enter g args) w) {p : Blk → Bool} {w : World} {la : Option Addr} {c : Nat} {l : List Blk} (h : BlksAt w la l) (hl : l.length ≤ 1000000) (ha : Asks g cb p w) (d : Int) (hd : -1 ≤ d ∧ d ≤ 1) :
    Calls Try.prog 32 #[.slice la l.length c, .int .i64 d, .func (.func g) #[] #[.pointer (some ⟨cb, 0, none⟩)]] w fun e w' => e = .returned (.tuple #[(besB p l d).val, .bool (besN p l d).isSome]) ∧ w.grownBy w' none := by
  have hg0 : w.grownBy (w.alloc (.cells #[.int .u64 0, .int .u64 0, .bool false, .int .i64 0, .int .u64 0] 42)) none := World.grownBy_alloc _ _ _
  have hix : ∀ wr, (w.alloc (.cells #[.int .u64 0, .int .u64 0, .bool false, .int .i64 0, .int .u64 0] 42)) = wr → Calls Try.prog 58 #[.slice la l.length c, .func (.func g) #[] #[.pointer (some ⟨cb, 0, none⟩)]] wr _ := fun wr e => by
    subst e
    exact indexfunc_any eg (h.later hg0) hl (ha.later hg0)
  unfold besB
  cases hf : fstN p l with
  | none =>
    have hz : fstZ p l = -1 := by unfold fstZ; rw [hf]
    have hb : besN p l d = none := by unfold besN; rw [hf]
    rw [hz] at hix
    rw [hb]
    obtain ⟨n, hn⟩ : ∃ n, l.length = n := ⟨_, rfl⟩
    rw [hn] at hix ⊢
    clear hn hz hb hf h ha hl
    go_enter Try.func32, Try.ntmps32
    go_wp2_with (go_at_call 58; (with_reducible refine (hix _ rfl).mono ?_); rintro e w1 ⟨rfl, hg1⟩; have HB := Lib.hid (five_first hg1); obtain ⟨d0, d1, d2, d3, d4⟩ := five_cells HB.out; obtain ⟨f0, f1, f2, f3, f4⟩ := five_frozen HB.out)
    have hb := five_put HB.out (x' := .int .u64 0) (y' := .int .u64 0) (z' := .bool false) (p' := .int .i64 0) (q' := .int .u64 0)
    obtain ⟨k0, k1, k2, k3, k4⟩ := five_cells hb
    refine bodyPost_ret (v := .tuple #[.agg #[.int .u64 0, .int .u64 0, .bool false, .int .i64 0, .int .u64 0], .bool false]) (by simp [results, Try.results32, go_sem, k0, k1, k2, k3, k4]) rfl ?_
    exact ⟨rfl, five_grown (grown_trans hg0 hg1) (Nat.le_refl _)⟩
  | some i =>
    have hi := (fstN_some hf).1
    have hz : fstZ p l = (i : Int) := by unfold fstZ; rw [hf]
    rw [hz] at hix
    have hb : besN p l d = if 0 ≤ (i : Int) + d ∧ (i : Int) + d < l.length then some (l.getD ((i : Int) + d).toNat default) else none := by unfold besN; rw [hf]
    obtain ⟨j, hj⟩ : ∃ j, (i : Int) + d = j := ⟨_, rfl⟩
    have e1 : IntKind.i64.wrap ((i : Int) + d) = j := by rw [IntKind.wrap_i64]; omega
    have hi0 : ¬ (i : Int) < 0 := by omega
    rw [hj] at hb
    rw [hb]
    obtain ⟨n, hn⟩ : ∃ n, l.length = n := ⟨_, rfl⟩
    by_cases h0 : j < 0
    · rw [if_neg (by omega)]
      rw [hn] at hix ⊢
      clear hn hz hb hf h ha hl hi hj
      go_enter Try.func32, Try.ntmps32
      go_wp2_with (go_at_call 58; (with_reducible refine (hix _ rfl).mono ?_); rintro e w1 ⟨rfl, hg1⟩; have HB := Lib.hid (five_first hg1); obtain ⟨d0, d1, d2, d3, d4⟩ := five_cells HB.out; obtain ⟨f0, f1, f2, f3, f4⟩ := five_frozen HB.out)
      have hb := five_put HB.out (x' := .int .u64 0) (y' := .int .u64 0) (z' := .bool false) (p' := .int .i64 0) (q' := .int .u64 0)
      obtain ⟨k0, k1, k2, k3, k4⟩ := five_cells hb
      refine bodyPost_ret (v := .tuple #[.agg #[.int .u64 0, .int .u64 0, .bool false, .int .i64 0, .int .u64 0], .bool false]) (by simp [results, Try.results32, go_sem, k0, k1, k2, k3, k4]) rfl ?_
      exact ⟨rfl, five_grown (grown_trans hg0 hg1) (Nat.le_refl _)⟩
    · by_cases h1 : (n : Int) ≤ j
      · rw [if_neg (by omega)]
        rw [hn] at hix ⊢
        clear hn hz hb hf h ha hl hi hj
        go_enter Try.func32, Try.ntmps32
        go_wp2_with (go_at_call 58; (with_reducible refine (hix _ rfl).mono ?_); rintro e w1 ⟨rfl, hg1⟩; have HB := Lib.hid (five_first hg1); obtain ⟨d0, d1, d2, d3, d4⟩ := five_cells HB.out; obtain ⟨f0, f1, f2, f3, f4⟩ := five_frozen HB.out)
        have hb := five_put HB.out (x' := .int .u64 0) (y' := .int .u64 0) (z' := .bool false) (p' := .int .i64 0) (q' := .int .u64 0)
        obtain ⟨k0, k1, k2, k3, k4⟩ := five_cells hb
        refine bodyPost_ret (v := .tuple #[.agg #[.int .u64 0, .int .u64 0, .bool false, .int .i64 0, .int .u64 0], .bool false]) (by simp [results, Try.results32, go_sem, k0, k1, k2, k3, k4]) rfl ?_
        exact ⟨rfl, five_grown (grown_trans hg0 hg1) (Nat.le_refl _)⟩
      · rw [if_pos (by omega)]
        obtain ⟨m, rfl⟩ := Int.eq_ofNat_of_zero_le (by omega : 0 ≤ j)
        have hmn : m < n := by omega
        have hval : ((some (l.getD ((m : Int)).toNat default)).getD Blk.none).val = .agg #[.int .u64 (gO l m : Nat), .int .u64 (gS l m : Nat), .bool (gU l m), .int .i64 (gW l m), .int .u64 (gN l m : Nat)] := rfl
        rw [hval]
        obtain ⟨b, off, rfl, hb, hcs⟩ := (h.later hg0).cells (by omega)
        have hcs' := fun (w1 : World) (hg1 : (w.alloc (.cells #[.int .u64 0, .int .u64 0, .bool false, .int .i64 0, .int .u64 0] 42)).grownBy w1 none) => ((h.later hg0).later hg1).cells (by omega)
        have HC := Lib.hid hcs'
        have HN := Lib.hid hn
        rw [hn] at hix ⊢
        clear hn hz hb hf h ha hl hi hj hcs hcs' hval
        go_enter Try.func32, Try.ntmps32
        go_wp2_with (go_at_call 58; (with_reducible refine (hix _ rfl).mono ?_); rintro e w1 ⟨rfl, hg1⟩; have HB := Lib.hid (five_first hg1); obtain ⟨d0, d1, d2, d3, d4⟩ := five_cells HB.out; obtain ⟨f0, f1, f2, f3, f4⟩ := five_frozen HB.out; obtain ⟨b2, off2, hbo, hb2, hcs⟩ := HC.out _ hg1; injection hbo with hbo; injection hbo with hbo1 hbo2; subst hbo1; subst hbo2; obtain ⟨c0, c1, c2, c3, c4⟩ := hcs m (by rw [HN.out]; exact hmn); clear hcs)
        have hb := five_put HB.out (x' := .int .u64 (gO l m : Nat)) (y' := .int .u64 (gS l m : Nat)) (z' := .bool (gU l m)) (p' := .int .i64 (gW l m)) (q' := .int .u64 (gN l m : Nat))
        obtain ⟨k0, k1, k2, k3, k4⟩ := five_cells hb
        refine bodyPost_ret (v := .tuple #[.agg #[.int .u64 (gO l m : Nat), .int .u64 (gS l m : Nat), .bool (gU l m), .int .i64 (gW l m), .int .u64 (gN l m : Nat)], .bool true]) (by simp [results, Try.results32, go_sem, k0, k1, k2, k3, k4]) rfl ?_
        exact ⟨rfl, five_grown (grown_trans hg0 hg1) (Nat.le_refl _)⟩
set_option maxHeartbeats 1000000 in
theorem before_any {w : World} {la : Option Addr} {c : Nat} {l : List Blk} (h : BlksAt w la l) (hl : l.length ≤ 1000000) (off : Nat) :
    Calls Try.prog 18 #[.slice la l.length c, .int .u64 off] w fun e w' => e = .returned (.tuple #[(besB (pO off) l (-1)).val, .bool (besN (pO off) l (-1)).isSome]) ∧ w.grownBy w' none := by
  have hg0 : w.grownBy (w.alloc (.cells #[.int .u64 0, .int .u64 0, .bool false, .int .i64 0, .int .u64 0] 42)) none := World.grownBy_alloc _ _ _
  have hga : (w.alloc (.cells #[.int .u64 0, .int .u64 0, .bool false, .int .i64 0, .int .u64 0] 42)).grownBy ((w.alloc (.cells #[.int .u64 0, .int .u64 0, .bool false, .int .i64 0, .int .u64 0] 42)).alloc (.cells #[.int .u64 off] 24)) none := World.grownBy_alloc _ _ _
  have hb0 := heap_alloc_new' (w.alloc (.cells #[.int .u64 0, .int .u64 0, .bool false, .int .i64 0, .int .u64 0] 42)) (.cells #[.int .u64 off] 24)
  have hbe : Calls Try.prog 32 #[.slice la l.length c, .int .i64 (-1), .func (.func 66) #[] #[.pointer (some ⟨(w.alloc (.cells #[.int .u64 0, .int .u64 0, .bool false, .int .i64 0, .int .u64 0] 42)).heap.size, 0, none⟩)]] ((w.alloc (.cells #[.int .u64 0, .int .u64 0, .bool false, .int .i64 0, .int .u64 0] 42)).alloc (.cells #[.int .u64 off] 24)) _ :=
    beside_any (enters_of Try.func66 (by kernel_rfl) rfl) ((h.later hg0).later hga) hl (asks_begins off _ (lt_of_block hb0) (cell_of_one hb0)) (-1) (by omega)
  have hbg := fun w => begins_any off w
  obtain ⟨r, hr⟩ : ∃ r, besB (pO off) l (-1) = r := ⟨_, rfl⟩
  obtain ⟨s, hs⟩ : ∃ s, (besN (pO off) l (-1)).isSome = s := ⟨_, rfl⟩
  rw [hr, hs] at hbe ⊢
  simp only [Blk.val] at hbe ⊢
  obtain ⟨n, hn⟩ : ∃ n, l.length = n := ⟨_, rfl⟩
  rw [hn] at hbe ⊢
  rw [World.size_alloc] at hb0 hbe
  clear hr hs hn h hl hb0
  go_enter Try.func18, Try.ntmps18
  go_wp2_with (first | (go_at_call 38; refine (hbg _).mono ?_; rintro e w1 ⟨rfl, rfl⟩; simp only [World.size_alloc]) | (go_at_call 32; (with_reducible refine hbe.mono ?_); rintro e w2 ⟨rfl, hg2⟩; have HB := Lib.hid (five_first (grown_trans hga hg2)); obtain ⟨d0, d1, d2, d3, d4⟩ := five_cells HB.out; obtain ⟨f0, f1, f2, f3, f4⟩ := five_frozen HB.out))
  have hb := five_put HB.out (x' := .int .u64 (r.off : Nat)) (y' := .int .u64 (r.s : Nat)) (z' := .bool r.u) (p' := .int .i64 r.o) (q' := .int .u64 (r.n : Nat))
  obtain ⟨k0, k1, k2, k3, k4⟩ := five_cells hb
  refine bodyPost_ret (v := .tuple #[.agg #[.int .u64 (r.off : Nat), .int .u64 (r.s : Nat), .bool r.u, .int .i64 r.o, .int .u64 (r.n : Nat)], .bool s]) (by simp [results, Try.results18, go_sem, k0, k1, k2, k3, k4]) rfl ?_
  exact ⟨rfl, five_grown (grown_trans hg0 (grown_trans hga hg2)) (Nat.le_refl _)⟩
set_option maxHeartbeats 1000000 in
theorem after_any {w : World} {la : Option Addr} {c : Nat} {l : List Blk} (h : BlksAt w la l) (hl : l.length ≤ 1000000) (off : Nat) :
    Calls Try.prog 20 #[.slice la l.length c, .int .u64 off] w fun e w' => e = .returned (.tuple #[(besB (pO off) l (1)).val, .bool (besN (pO off) l (1)).isSome]) ∧ w.grownBy w' none := by
  have hg0 : w.grownBy (w.alloc (.cells #[.int .u64 0, .int .u64 0, .bool false, .int .i64 0, .int .u64 0] 42)) none := World.grownBy_alloc _ _ _
  have hga : (w.alloc (.cells #[.int .u64 0, .int .u64 0, .bool false, .int .i64 0, .int .u64 0] 42)).grownBy ((w.alloc (.cells #[.int .u64 0, .int .u64 0, .bool false, .int .i64 0, .int .u64 0] 42)).alloc (.cells #[.int .u64 off] 24)) none := World.grownBy_alloc _ _ _
  have hb0 := heap_alloc_new' (w.alloc (.cells #[.int .u64 0, .int .u64 0, .bool false, .int .i64 0, .int .u64 0] 42)) (.cells #[.int .u64 off] 24)
  have hbe : Calls Try.prog 32 #[.slice la l.length c, .int .i64 (1), .func (.func 66) #[] #[.pointer (some ⟨(w.alloc (.cells #[.int .u64 0, .int .u64 0, .bool false, .int .i64 0, .int .u64 0] 42)).heap.size, 0, none⟩)]] ((w.alloc (.cells #[.int .u64 0, .int .u64 0, .bool false, .int .i64 0, .int .u64 0] 42)).alloc (.cells #[.int .u64 off] 24)) _ :=
    beside_any (enters_of Try.func66 (by kernel_rfl) rfl) ((h.later hg0).later hga) hl (asks_begins off _ (lt_of_block hb0) (cell_of_one hb0)) (1) (by omega)
  have hbg := fun w => begins_any off w
  obtain ⟨r, hr⟩ : ∃ r, besB (pO off) l (1) = r := ⟨_, rfl⟩
  obtain ⟨s, hs⟩ : ∃ s, (besN (pO off) l (1)).isSome = s := ⟨_, rfl⟩
  rw [hr, hs] at hbe ⊢
  simp only [Blk.val] at hbe ⊢
  obtain ⟨n, hn⟩ : ∃ n, l.length = n := ⟨_, rfl⟩
  rw [hn] at hbe ⊢
  rw [World.size_alloc] at hb0 hbe
  clear hr hs hn h hl hb0
  go_enter Try.func20, Try.ntmps20
  go_wp2_with (first | (go_at_call 38; refine (hbg _).mono ?_; rintro e w1 ⟨rfl, rfl⟩; simp only [World.size_alloc]) | (go_at_call 32; (with_reducible refine hbe.mono ?_); rintro e w2 ⟨rfl, hg2⟩; have HB := Lib.hid (five_first (grown_trans hga hg2)); obtain ⟨d0, d1, d2, d3, d4⟩ := five_cells HB.out; obtain ⟨f0, f1, f2, f3, f4⟩ := five_frozen HB.out))
  have hb := five_put HB.out (x' := .int .u64 (r.off : Nat)) (y' := .int .u64 (r.s : Nat)) (z' := .bool r.u) (p' := .int .i64 r.o) (q' := .int .u64 (r.n : Nat))
  obtain ⟨k0, k1, k2, k3, k4⟩ := five_cells hb
  refine bodyPost_ret (v := .tuple #[.agg #[.int .u64 (r.off : Nat), .int .u64 (r.s : Nat), .bool r.u, .int .i64 r.o, .int .u64 (r.n : Nat)], .bool s]) (by simp [results, Try.results20, go_sem, k0, k1, k2, k3, k4]) rfl ?_
  exact ⟨rfl, five_grown (grown_trans hg0 (grown_trans hga hg2)) (Nat.le_refl _)⟩
section
variable {w : World} {T M : Nat} {R : Option Nat} {B D : Nat} {ws : List Nat} {l : List (Nat × Nat)}
/-- how many blocks there are, and whether they end at the heap's end; none, where the head isn't checked -/
structure Heap (ws : List Nat) (l : List (Nat × Nat)) (bl : List Blk) (err : Nat) : Prop where
  is : (chkN ws l = 12 ∧ bl = [] ∧ err = 12) ∨ (chkN ws l = 0 ∧ ∃ N ok, Walks (txSee ws l) N ok ∧ bl = wkL (txSee ws l) N ok ∧ err = wkE ok)
  len : bl.length ≤ 1000000
theorem chk_or (ws : List Nat) (l : List (Nat × Nat)) : chkN ws l = 0 ∨ chkN ws l = 12 := by
  unfold chkN
  split
  · exact .inl rfl
  · exact .inr rfl
theorem heap_some (ws : List Nat) (l : List (Nat × Nat)) (hm : ws.length ≤ 131072) : ∃ bl err, Heap ws l bl err := by
  rcases chk_or ws l with hc | hc
  · obtain ⟨N, ok, hw⟩ := walks_some (txSee ws l)
    refine ⟨_, _, .inr ⟨hc, N, ok, hw, rfl, rfl⟩, ?_⟩
    have h1 := hw.len
    have h2 : chkP ws l := by
      unfold chkN at hc
      split at hc
      · assumption
      · cases hc
    have h3 := h2.1.2.2
    unfold wkL
    split
    · rw [blks_len]; omega
    · exact Nat.zero_le _
  · exact ⟨[], 12, .inl ⟨hc, rfl, rfl⟩, Nat.zero_le _⟩
theorem walks_small {ws : List Nat} {l : List (Nat × Nat)} (hm : ws.length ≤ 131072) (hc : chkN ws l = 0) {N : Nat} {ok : Bool} (hw : Walks (txSee ws l) N ok) : N ≤ 1000000 := by
  have h1 := hw.len
  have h2 : chkP ws l := by
    unfold chkN at hc
    split at hc
    · assumption
    · cases hc
  have h3 := h2.1.2.2
  omega
theorem pwalk_any (h : Thinks w T M R B D ws l) {bl : List Blk} {err : Nat} (hb : Heap ws l bl err) :
    Calls Try.prog 11 #[.pointer (some ⟨T, 0, none⟩)] w fun e w' => ∃ v, e = .returned (.tuple #[v, .int .i64 (err : Nat)]) ∧ OwnB w' w.heap.size 42 v bl ∧ w.grownBy w' none := by
  rcases hb.is with ⟨hc, rfl, rfl⟩ | ⟨hc, N, ok, hw, rfl, rfl⟩
  · exact (pwalk_no h hc).mono fun e w' ⟨h1, h2⟩ => ⟨_, h1, World.ownsRow_nil _ _ _ _, h2⟩
  · exact pwalk_yes h hc hw (walks_small h.seg.most hc hw)
set_option maxHeartbeats 1000000 in
theorem pfind_any (h : Thinks w T M R B D ws l) {bl : List Blk} {err : Nat} (hb : Heap ws l bl err) (off : Nat) :
    Calls Try.prog 13 #[.pointer (some ⟨T, 0, none⟩), .int .u64 off] w fun e w' => e = .returned (.tuple #[(besB (pF off) bl 0).val, .bool (besN (pF off) bl 0).isSome]) ∧ w.grownBy w' none := by
  have hg0 : w.grownBy ((w.alloc (.cells #[.int .u64 off] 24)).alloc (.cells #[.int .u64 0, .int .u64 0, .bool false, .int .i64 0, .int .u64 0] 42)) none := grown_trans (World.grownBy_alloc _ _ _) (World.grownBy_alloc _ _ _)
  have hwk := pwalk_any (h.later hg0) hb
  have hb0 : ((w.alloc (.cells #[.int .u64 off] 24)).alloc (.cells #[.int .u64 0, .int .u64 0, .bool false, .int .i64 0, .int .u64 0] 42)).heap[w.heap.size]? = some (.cells #[.int .u64 off] 24 (0, 0)) := (Below.heap_alloc _ _ _ (by simp)).trans (heap_alloc_new' w _)
  have hb1 : ((w.alloc (.cells #[.int .u64 off] 24)).alloc (.cells #[.int .u64 0, .int .u64 0, .bool false, .int .i64 0, .int .u64 0] 42)).heap[w.heap.size + 1]? = some (.cells #[.int .u64 0, .int .u64 0, .bool false, .int .i64 0, .int .u64 0] 42 (0, 0)) := by
    have := heap_alloc_new' (w.alloc (.cells #[.int .u64 off] 24)) (.cells #[.int .u64 0, .int .u64 0, .bool false, .int .i64 0, .int .u64 0] 42)
    rwa [World.size_alloc] at this
  have hbe := fun (w1 : World) (la : Option Addr) (c : Nat) (hat : BlksAt w1 la bl) (hg : ((w.alloc (.cells #[.int .u64 off] 24)).alloc (.cells #[.int .u64 0, .int .u64 0, .bool false, .int .i64 0, .int .u64 0] 42)).grownBy w1 none) =>
    beside_any (g := 33) (cb := w.heap.size) (c := c) (enters_of Try.func33 (by kernel_rfl) rfl) hat hb.len (asks_find off w.heap.size (lt_of_block ((hg.block _ (lt_of_block hb0) (by simp)).trans hb0)) (cell_of_one ((hg.block _ (lt_of_block hb0) (by simp)).trans hb0))) 0 (by omega)
  obtain ⟨r, hr⟩ : ∃ r, besB (pF off) bl 0 = r := ⟨_, rfl⟩
  obtain ⟨s, hs⟩ : ∃ s, (besN (pF off) bl 0).isSome = s := ⟨_, rfl⟩
  rw [hr, hs] at hbe ⊢
  simp only [Blk.val] at hbe ⊢
  clear hr hs hb h
  go_enter Try.func13, Try.ntmps13
  go_wp2_with (first | (go_at_call 11; refine hwk.mono ?_; rintro e w1 ⟨v, rfl, ho1, hg1⟩; obtain ⟨la, c, hv, hat⟩ := ho1.at_; subst hv) | (go_at_call 32; refine (hbe _ _ _ hat hg1).mono ?_; rintro e w2 ⟨rfl, hg2⟩; have HB := Lib.hid (((grown_trans hg1 hg2).block _ (lt_of_block hb1) (by simp)).trans hb1); obtain ⟨d0, d1, d2, d3, d4⟩ := five_cells HB.out; obtain ⟨f0, f1, f2, f3, f4⟩ := five_frozen HB.out))
  have hb := five_put HB.out (x' := .int .u64 (r.off : Nat)) (y' := .int .u64 (r.s : Nat)) (z' := .bool r.u) (p' := .int .i64 r.o) (q' := .int .u64 (r.n : Nat))
  obtain ⟨k0, k1, k2, k3, k4⟩ := five_cells hb
  refine bodyPost_ret (v := .tuple #[.agg #[.int .u64 (r.off : Nat), .int .u64 (r.s : Nat), .bool r.u, .int .i64 r.o, .int .u64 (r.n : Nat)], .bool s]) (by simp [results, Try.results13, go_sem, k0, k1, k2, k3, k4]) rfl ?_
  exact ⟨rfl, five_grown (grown_trans hg0 (grown_trans hg1 hg2)) (by omega)⟩
end
theorem ret_boolq {a b : Bool} (h : a = b) : Ending.returned (.bool a) = .returned (.bool b) := by rw [h]
/-! ### Merged -/
def mergedL (l : List Blk) : Bool := (List.range l.length).all fun i => i == 0 || gU l (i - 1) || gU l i
theorem merged_yes {l : List Blk} {n : Nat} (hn : l.length = n) (h : ∀ j, j < n → 1 ≤ j → ¬ (gU l (j - 1) = false ∧ gU l j = false)) : true = mergedL l := by
  unfold mergedL
  refine (List.all_eq_true.2 fun i hi => ?_).symm
  have h1 := h i (by rw [← hn]; exact List.mem_range.1 hi)
  by_cases h0 : i = 0
  · simp [h0]
  · have h2 := h1 (by omega)
    cases e1 : gU l (i - 1) <;> cases e2 : gU l i <;> simp_all
theorem merged_no {l : List Blk} {k : Nat} (hk : k < l.length) (h1 : 1 ≤ k) (h2 : gU l (k - 1) = false) (h3 : gU l k = false) : false = mergedL l := by
  unfold mergedL
  refine (List.all_eq_false.2 ⟨k, List.mem_range.2 hk, ?_⟩).symm
  simp [h2, h3]
  omega
set_option maxHeartbeats 1000000 in
theorem merged_any {w : World} {la : Option Addr} {c : Nat} {l : List Blk} (h : BlksAt w la l) (hl : l.length ≤ 1000000) :
    Calls Try.prog 21 #[.slice la l.length c] w fun e w' => e = .returned (.bool (mergedL l)) ∧ w.grownBy w' none := by
  obtain ⟨n, hn⟩ : ∃ n, l.length = n := ⟨_, rfl⟩
  have HN := Lib.hid hn
  rw [hn] at hl ⊢
  clear hn
  go_enter Try.func21, Try.ntmps21
  go_wp2
  go_loop [3] (fun i => ∃ k : Nat, (k ≤ n ∨ k = 1) ∧ 1 ≤ k ∧ i = .int .i64 k ∧ Hid (∀ j, j < k → 1 ≤ j → ¬ (gU l (j - 1) = false ∧ gU l j = false))) (fun i => n - (intOf i).toNat)
  case atStart => exact ⟨1, .inr rfl, Nat.le_refl _, rfl, Lib.hid (fun j hj h1 => by omega)⟩
  case round =>
    obtain ⟨k, hk, h1k, rfl, HJ⟩ := hrel
    rcases Nat.lt_or_ge k n with h1 | h1
    · obtain ⟨b, off, rfl, hb, hcs⟩ := h.cells (by rw [HN.out]; omega)
      obtain ⟨j, rfl⟩ : ∃ j, k = j + 1 := ⟨k - 1, by omega⟩
      obtain ⟨_, _, a2, _, _⟩ := hcs j (by rw [HN.out]; omega)
      obtain ⟨_, _, c2, _, _⟩ := hcs (j + 1) (by rw [HN.out]; exact h1)
      have e1 : IntKind.i64.wrap ((j + 1 : Nat) - 1 : Int) = (j : Nat) := by rw [IntKind.wrap_i64]; omega
      obtain ⟨u, hu⟩ : ∃ u, gU l j = u := ⟨_, rfl⟩
      obtain ⟨u', hu'⟩ : ∃ u', gU l (j + 1) = u' := ⟨_, rfl⟩
      rw [hu] at a2
      rw [hu'] at c2
      have HU := Lib.hid hu
      have HU' := Lib.hid hu'
      clear hcs hu hu' h
      cases u with
      | true =>
        go_wp2
        go_round
        case rel =>
          refine ⟨j + 2, .inl (by omega), by omega, by go_num, Lib.hid fun i hi h1 => ?_⟩
          rcases Nat.lt_or_ge i (j + 1) with h' | h'
          · exact HJ.out i h' h1
          · obtain rfl : i = j + 1 := by omega
            rw [Nat.add_sub_cancel, HU.out]
            simp
        case measure => simp [intOf]; omega
      | false =>
        cases u' with
        | true =>
          go_wp2
          go_round
          case rel =>
            refine ⟨j + 2, .inl (by omega), by omega, by go_num, Lib.hid fun i hi h1 => ?_⟩
            rcases Nat.lt_or_ge i (j + 1) with h' | h'
            · exact HJ.out i h' h1
            · obtain rfl : i = j + 1 := by omega
              rw [HU'.out]
              simp
          case measure => simp [intOf]; omega
        | false =>
          go_wp2
          go_ret
          exact ⟨ret_boolq (merged_no (by rw [HN.out]; exact h1) (by omega) (by rw [Nat.add_sub_cancel]; exact HU.out) HU'.out), grown_refl _ _⟩
    · clear h
      go_wp2
      go_ret
      exact ⟨ret_boolq (merged_yes HN.out (fun j hj => HJ.out j (by omega))), grown_refl _ _⟩
end Go.Proofs.Ytmhkibdbamhdoaa
