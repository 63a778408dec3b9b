/-
  Layer 6's plain answers: the contracts of Walk where the head is not checked, of place, Find, Merged and Beside.
  Conditions: the plain Tx and the blocks stand in memory; there are 131072 words, and 1000000 blocks, at most.
-/
import Derived.Test.YtmhkibdbamhdoaaPhysG
namespace Go.Proofs.Ytmhkibdbamhdoaa
open Go.RowKit
set_option linter.unusedVariables false
set_option linter.unusedSimpArgs false

set_option maxHeartbeats 1000000 in
theorem rmerged_any {w : World} {la : Option Addr} {c : Nat} {l : List Blk} (h : BlksAt w la l) (hl : l.length ≤ 1000000) :
    Calls Try.prog 22 #[.slice la l.length c] w fun e w' => e = .returned (.bool (mergedL l)) ∧ w.grownBy w' none := by
  obtain ⟨n, hn⟩ : ∃ n, l.length = n := ⟨_, rfl⟩
  have HN := Lib.hid hn
  rw [hn] at hl ⊢
  clear hn
  go_enter Try.func22, Try.ntmps22
  go_wp2
  go_loop [3] (fun i => ∃ k : Nat, (k ≤ n ∨ k = 1) ∧ 1 ≤ k ∧ i = .int .i64 k ∧ Hid (∀ j, j < k → 1 ≤ j → ¬ (gU l (j - 1) = false ∧ gU l j = false))) (fun i => n - (intOf i).toNat)
  case atStart => exact ⟨1, .inr rfl, Nat.le_refl _, rfl, Lib.hid (fun j hj h1 => by omega)⟩
  case round =>
    obtain ⟨k, hk, h1k, rfl, HJ⟩ := hrel
    rcases Nat.lt_or_ge k n with h1 | h1
    · obtain ⟨b, off, rfl, hb, hcs⟩ := h.cells (by rw [HN.out]; omega)
      obtain ⟨j, rfl⟩ : ∃ j, k = j + 1 := ⟨k - 1, by omega⟩
      obtain ⟨_, _, a2, _, _⟩ := hcs j (by rw [HN.out]; omega)
      obtain ⟨_, _, c2, _, _⟩ := hcs (j + 1) (by rw [HN.out]; exact h1)
      have e1 : IntKind.i64.wrap ((j + 1 : Nat) - 1 : Int) = (j : Nat) := by rw [IntKind.wrap_i64]; omega
      obtain ⟨u, hu⟩ : ∃ u, gU l j = u := ⟨_, rfl⟩
      obtain ⟨u', hu'⟩ : ∃ u', gU l (j + 1) = u' := ⟨_, rfl⟩
      rw [hu] at a2
      rw [hu'] at c2
      have HU := Lib.hid hu
      have HU' := Lib.hid hu'
      clear hcs hu hu' h
      cases u with
      | true =>
        go_wp2
        go_round
        case rel =>
          refine ⟨j + 2, .inl (by omega), by omega, by go_num, Lib.hid fun i hi h1 => ?_⟩
          rcases Nat.lt_or_ge i (j + 1) with h' | h'
          · exact HJ.out i h' h1
          · obtain rfl : i = j + 1 := by omega
            rw [Nat.add_sub_cancel, HU.out]
            simp
        case measure => simp [intOf]; omega
      | false =>
        cases u' with
        | true =>
          go_wp2
          go_round
          case rel =>
            refine ⟨j + 2, .inl (by omega), by omega, by go_num, Lib.hid fun i hi h1 => ?_⟩
            rcases Nat.lt_or_ge i (j + 1) with h' | h'
            · exact HJ.out i h' h1
            · obtain rfl : i = j + 1 := by omega
              rw [HU'.out]
              simp
          case measure => simp [intOf]; omega
        | false =>
          go_wp2
          go_ret
          exact ⟨ret_boolq (merged_no (by rw [HN.out]; exact h1) (by omega) (by rw [Nat.add_sub_cancel]; exact HU.out) HU'.out), grown_refl _ _⟩
    · clear h
      go_wp2
      go_ret
      exact ⟨ret_boolq (merged_yes HN.out (fun j hj => HJ.out j (by omega))), grown_refl _ _⟩
set_option maxHeartbeats 1000000 in
theorem rplace_any {w : World} {la : Option Addr} {c : Nat} {l : List Blk} (h : BlksAt w la l) (hl : l.length ≤ 1000000) (off : Nat) :
    Calls Try.prog 39 #[.slice la l.length c, .int .u64 off] w fun e w' => e = .returned (.int .i64 (fstZ (pO off) l)) ∧ w.grownBy w' none := by
  obtain ⟨n, hn⟩ : ∃ n, l.length = n := ⟨_, rfl⟩
  have HN := Lib.hid hn
  rw [hn] at hl ⊢
  clear hn
  go_enter Try.func39, Try.ntmps39
  go_wp2
  go_loop [5] (fun i => ∃ k : Nat, k ≤ n ∧ i = .int .i64 k ∧ Hid (∀ j, j < k → pO off (l.getD j default) = false)) (fun i => n - (intOf i).toNat)
  case atStart => exact ⟨0, Nat.zero_le _, rfl, Lib.hid (fun j hj => absurd hj (Nat.not_lt_zero _))⟩
  case round =>
    obtain ⟨k, hk, rfl, HJ⟩ := hrel
    rcases Nat.lt_or_ge k n with h1 | h1
    · obtain ⟨b, o, rfl, hb, hcs⟩ := h.cells (by rw [HN.out]; omega)
      obtain ⟨c0, c1, c2, c3, c4⟩ := hcs k (by rw [HN.out]; exact h1)
      by_cases hx : gO l k = off
      · have e1 : ((gO l k : Int) == (off : Int)) = true := by rw [beq_iff_eq]; omega
        have HX := Lib.hid (show pO off (l.getD k default) = true from decide_eq_true hx)
        clear hx hcs h
        go_wp2
        go_ret
        exact ⟨ret_int' (fstZ_is (by rw [HN.out]; exact h1) HX.out HJ.out), grown_refl _ _⟩
      · have e1 : ((gO l k : Int) == (off : Int)) = false := by rw [beq_eq_false_iff_ne]; omega
        have HX := Lib.hid (show pO off (l.getD k default) = false from decide_eq_false hx)
        clear hx hcs h
        go_wp2
        go_round
        case rel =>
          refine ⟨k + 1, by omega, by go_num, Lib.hid fun j hj => ?_⟩
          rcases Nat.lt_or_ge j k with h' | h'
          · exact HJ.out j h'
          · rw [show j = k by omega]; exact HX.out
        case measure => simp [intOf]; omega
    · obtain rfl : k = n := by omega
      clear h
      go_wp2
      go_ret
      exact ⟨ret_int' (fstZ_not (by rw [HN.out]; exact HJ.out)), grown_refl _ _⟩
set_option maxHeartbeats 2000000 in
theorem rbeside_any {w : World} {la : Option Addr} {c : Nat} {l : List Blk} (h : BlksAt w la l) (hl : l.length ≤ 1000000) (off : Nat) (d : Int) (hd : -1 ≤ d ∧ d ≤ 1) :
    Calls Try.prog 19 #[.slice la l.length c, .int .u64 off, .int .i64 d] w fun e w' => e = .returned (.tuple #[(besB (pO off) l d).val, .bool (besN (pO off) l d).isSome]) ∧ w.grownBy w' none := by
  have hg0 : w.grownBy (w.alloc (.cells #[.int .u64 0, .int .u64 0, .bool false, .int .i64 0, .int .u64 0] 47)) none := World.grownBy_alloc _ _ _
  have hix : ∀ wr, (w.alloc (.cells #[.int .u64 0, .int .u64 0, .bool false, .int .i64 0, .int .u64 0] 47)) = wr → Calls Try.prog 39 #[.slice la l.length c, .int .u64 off] wr _ := fun wr e => by
    subst e
    exact rplace_any (h.later hg0) hl off
  unfold besB
  cases hf : fstN (pO off) l with
  | none =>
    have hz : fstZ (pO off) l = -1 := by unfold fstZ; rw [hf]
    have hb : besN (pO off) l d = none := by unfold besN; rw [hf]
    rw [hz] at hix
    rw [hb]
    obtain ⟨n, hn⟩ : ∃ n, l.length = n := ⟨_, rfl⟩
    rw [hn] at hix ⊢
    clear hn hz hb hf h hl
    go_enter Try.func19, Try.ntmps19
    go_wp2_with (go_at_call 39; (with_reducible refine (hix _ rfl).mono ?_); rintro e w1 ⟨rfl, hg1⟩; have HB := Lib.hid (five_first hg1); obtain ⟨d0, d1, d2, d3, d4⟩ := five_cells HB.out; obtain ⟨f0, f1, f2, f3, f4⟩ := five_frozen HB.out)
    have hb := five_put HB.out (x' := .int .u64 0) (y' := .int .u64 0) (z' := .bool false) (p' := .int .i64 0) (q' := .int .u64 0)
    obtain ⟨k0, k1, k2, k3, k4⟩ := five_cells hb
    refine bodyPost_ret (v := .tuple #[.agg #[.int .u64 0, .int .u64 0, .bool false, .int .i64 0, .int .u64 0], .bool false]) (by simp [results, Try.results19, go_sem, k0, k1, k2, k3, k4]) rfl ?_
    exact ⟨rfl, five_grown (grown_trans hg0 hg1) (Nat.le_refl _)⟩
  | some i =>
    have hi := (fstN_some hf).1
    have hz : fstZ (pO off) l = (i : Int) := by unfold fstZ; rw [hf]
    rw [hz] at hix
    have hb : besN (pO off) l d = if 0 ≤ (i : Int) + d ∧ (i : Int) + d < l.length then some (l.getD ((i : Int) + d).toNat default) else none := by unfold besN; rw [hf]
    obtain ⟨j, hj⟩ : ∃ j, (i : Int) + d = j := ⟨_, rfl⟩
    have e1 : IntKind.i64.wrap ((i : Int) + d) = j := by rw [IntKind.wrap_i64]; omega
    have hi0 : ¬ (i : Int) < 0 := by omega
    rw [hj] at hb
    rw [hb]
    obtain ⟨n, hn⟩ : ∃ n, l.length = n := ⟨_, rfl⟩
    by_cases h0 : j < 0
    · rw [if_neg (by omega)]
      rw [hn] at hix ⊢
      clear hn hz hb hf h hl hi hj
      go_enter Try.func19, Try.ntmps19
      go_wp2_with (go_at_call 39; (with_reducible refine (hix _ rfl).mono ?_); rintro e w1 ⟨rfl, hg1⟩; have HB := Lib.hid (five_first hg1); obtain ⟨d0, d1, d2, d3, d4⟩ := five_cells HB.out; obtain ⟨f0, f1, f2, f3, f4⟩ := five_frozen HB.out)
      have hb := five_put HB.out (x' := .int .u64 0) (y' := .int .u64 0) (z' := .bool false) (p' := .int .i64 0) (q' := .int .u64 0)
      obtain ⟨k0, k1, k2, k3, k4⟩ := five_cells hb
      refine bodyPost_ret (v := .tuple #[.agg #[.int .u64 0, .int .u64 0, .bool false, .int .i64 0, .int .u64 0], .bool false]) (by simp [results, Try.results19, go_sem, k0, k1, k2, k3, k4]) rfl ?_
      exact ⟨rfl, five_grown (grown_trans hg0 hg1) (Nat.le_refl _)⟩
    · by_cases h1 : (n : Int) ≤ j
      · rw [if_neg (by omega)]
        rw [hn] at hix ⊢
        clear hn hz hb hf h hl hi hj
        go_enter Try.func19, Try.ntmps19
        go_wp2_with (go_at_call 39; (with_reducible refine (hix _ rfl).mono ?_); rintro e w1 ⟨rfl, hg1⟩; have HB := Lib.hid (five_first hg1); obtain ⟨d0, d1, d2, d3, d4⟩ := five_cells HB.out; obtain ⟨f0, f1, f2, f3, f4⟩ := five_frozen HB.out)
        have hb := five_put HB.out (x' := .int .u64 0) (y' := .int .u64 0) (z' := .bool false) (p' := .int .i64 0) (q' := .int .u64 0)
        obtain ⟨k0, k1, k2, k3, k4⟩ := five_cells hb
        refine bodyPost_ret (v := .tuple #[.agg #[.int .u64 0, .int .u64 0, .bool false, .int .i64 0, .int .u64 0], .bool false]) (by simp [results, Try.results19, go_sem, k0, k1, k2, k3, k4]) rfl ?_
        exact ⟨rfl, five_grown (grown_trans hg0 hg1) (Nat.le_refl _)⟩
      · rw [if_pos (by omega)]
        obtain ⟨m, rfl⟩ := Int.eq_ofNat_of_zero_le (by omega : 0 ≤ j)
        have hmn : m < n := by omega
        have hval : ((some (l.getD ((m : Int)).toNat default)).getD Blk.none).val = .agg #[.int .u64 (gO l m : Nat), .int .u64 (gS l m : Nat), .bool (gU l m), .int .i64 (gW l m), .int .u64 (gN l m : Nat)] := rfl
        rw [hval]
        obtain ⟨b, o, rfl, hb, hcs⟩ := (h.later hg0).cells (by omega)
        have hcs' := fun (w1 : World) (hg1 : (w.alloc (.cells #[.int .u64 0, .int .u64 0, .bool false, .int .i64 0, .int .u64 0] 47)).grownBy w1 none) => ((h.later hg0).later hg1).cells (by omega)
        have HC := Lib.hid hcs'
        have HN := Lib.hid hn
        rw [hn] at hix ⊢
        clear hn hz hb hf h hl hi hj hcs hcs' hval
        go_enter Try.func19, Try.ntmps19
        go_wp2_with (go_at_call 39; (with_reducible refine (hix _ rfl).mono ?_); rintro e w1 ⟨rfl, hg1⟩; have HB := Lib.hid (five_first hg1); obtain ⟨d0, d1, d2, d3, d4⟩ := five_cells HB.out; obtain ⟨f0, f1, f2, f3, f4⟩ := five_frozen HB.out; obtain ⟨b2, off2, hbo, hb2, hcs⟩ := HC.out _ hg1; injection hbo with hbo; injection hbo with hbo1 hbo2; subst hbo1; subst hbo2; obtain ⟨c0, c1, c2, c3, c4⟩ := hcs m (by rw [HN.out]; exact hmn); clear hcs)
        have hb := five_put HB.out (x' := .int .u64 (gO l m : Nat)) (y' := .int .u64 (gS l m : Nat)) (z' := .bool (gU l m)) (p' := .int .i64 (gW l m)) (q' := .int .u64 (gN l m : Nat))
        obtain ⟨k0, k1, k2, k3, k4⟩ := five_cells hb
        refine bodyPost_ret (v := .tuple #[.agg #[.int .u64 (gO l m : Nat), .int .u64 (gS l m : Nat), .bool (gU l m), .int .i64 (gW l m), .int .u64 (gN l m : Nat)], .bool true]) (by simp [results, Try.results19, go_sem, k0, k1, k2, k3, k4]) rfl ?_
        exact ⟨rfl, five_grown (grown_trans hg0 hg1) (Nat.le_refl _)⟩
section
variable {w : World} {base : Nat} {wv pv : Value} {ws : List Nat} {l : List (Nat × Nat)}
set_option maxHeartbeats 1000000 in
theorem rwalk_no (h : RTx w base wv pv ws l) (hbase : base ≤ w.heap.size) (hm : ws.length ≤ 131072) (hok : TxOk ws l) (hlt : ∀ x ∈ ws, x < 18446744073709551616) (hc : chkN ws l = 12) :
    Calls Try.prog 12 #[.agg #[wv, pv]] w fun e w' => e = .returned (.tuple #[.slice none 0 0, .int .i64 12]) ∧ w.grownBy w' none := by
  obtain ⟨wa, wn, wc, hwv⟩ := wv_form h.words
  subst hwv
  obtain ⟨pa, pn, pc, hpv⟩ := pv_form h.puts
  subst hpv
  have hg0 : w.grownBy (w.alloc (.cells #[.slice wa wn wc, .slice pa pn pc] 29)) none := World.grownBy_alloc _ _ _
  have hck := rcheck6_any (h.later hg0) (Nat.le_trans hbase hg0.size) hm hok hlt
  rw [hc] at hck
  simp only [show ((12 : Nat) : Int) = 12 from rfl] at hck
  clear h
  go_enter Try.func12, Try.ntmps12
  go_wp2_with (go_at_call 28; (with_reducible refine hck.mono ?_); rintro e w1 ⟨rfl, hg1⟩)
  go_ret2
  exact ⟨rfl, grown_trans hg0 hg1⟩
theorem rwalk_any (h : RTx w base wv pv ws l) (hbase : base ≤ w.heap.size) (hm : ws.length ≤ 131072) (hl : l.length ≤ 1000000) (hok : TxOk ws l) (hlt : ∀ x ∈ ws, x < 18446744073709551616) {bl : List Blk} {err : Nat} (hb : Heap ws l bl err) :
    Calls Try.prog 12 #[.agg #[wv, pv]] w fun e w' => ∃ v, e = .returned (.tuple #[v, .int .i64 (err : Nat)]) ∧ OwnB w' w.heap.size 47 v bl ∧ w.grownBy w' none := by
  rcases hb.is with ⟨hc, rfl, rfl⟩ | ⟨hc, N, ok, hw, rfl, rfl⟩
  · exact (rwalk_no h hbase hm hok hlt hc).mono fun e w' ⟨h1, h2⟩ => ⟨_, h1, World.ownsRow_nil _ _ _ _, h2⟩
  · exact rwalk_yes h hbase hm hl hok hlt hc hw (walks_small hm hc hw)
set_option maxHeartbeats 2000000 in
theorem rfind_any (h : RTx w base wv pv ws l) (hbase : base ≤ w.heap.size) (hm : ws.length ≤ 131072) (hl : l.length ≤ 1000000) (hok : TxOk ws l) (hlt : ∀ x ∈ ws, x < 18446744073709551616) {bl : List Blk} {err : Nat} (hb : Heap ws l bl err) (off : Nat) :
    Calls Try.prog 14 #[.agg #[wv, pv], .int .u64 off] w fun e w' => e = .returned (.tuple #[(besB (pF off) bl 0).val, .bool (besN (pF off) bl 0).isSome]) ∧ w.grownBy w' none := by
  obtain ⟨wa, wn, wc, hwv⟩ := wv_form h.words
  subst hwv
  obtain ⟨pa, pn, pc, hpv⟩ := pv_form h.puts
  subst hpv
  have hg0 : w.grownBy ((w.alloc (.cells #[.slice wa wn wc, .slice pa pn pc] 29)).alloc (.cells #[.int .u64 0, .int .u64 0, .bool false, .int .i64 0, .int .u64 0] 47)) none := grown_trans (World.grownBy_alloc _ _ _) (World.grownBy_alloc _ _ _)
  have hwk := rwalk_any (h.later hg0) (Nat.le_trans hbase hg0.size) hm hl hok hlt hb
  have hb0 : ((w.alloc (.cells #[.slice wa wn wc, .slice pa pn pc] 29)).alloc (.cells #[.int .u64 0, .int .u64 0, .bool false, .int .i64 0, .int .u64 0] 47)).heap[w.heap.size]? = some (.cells #[.slice wa wn wc, .slice pa pn pc] 29 (0, 0)) := (Below.heap_alloc _ _ _ (by simp)).trans (heap_alloc_new' w _)
  have hb1 : ((w.alloc (.cells #[.slice wa wn wc, .slice pa pn pc] 29)).alloc (.cells #[.int .u64 0, .int .u64 0, .bool false, .int .i64 0, .int .u64 0] 47)).heap[w.heap.size + 1]? = some (.cells #[.int .u64 0, .int .u64 0, .bool false, .int .i64 0, .int .u64 0] 47 (0, 0)) := by
    have := heap_alloc_new' (w.alloc (.cells #[.slice wa wn wc, .slice pa pn pc] 29)) (.cells #[.int .u64 0, .int .u64 0, .bool false, .int .i64 0, .int .u64 0] 47)
    rwa [World.size_alloc] at this
  obtain ⟨m0, m1⟩ := two_cells hb0
  have hbn : ∀ k, k < bl.length → pF off (bl.getD k default) = true → (∀ j, j < k → pF off (bl.getD j default) = false) → besB (pF off) bl 0 = bl.getD k default ∧ (besN (pF off) bl 0).isSome = true := fun k hk h1 h2 => by
    have e : besN (pF off) bl 0 = some (bl.getD k default) := by
      unfold besN
      rw [fstN_is hk h1 h2]
      simp only [Int.add_zero, Int.toNat_natCast]
      rw [if_pos (by omega)]
    unfold besB
    rw [e]
    exact ⟨rfl, rfl⟩
  have hbz : (∀ j, j < bl.length → pF off (bl.getD j default) = false) → besB (pF off) bl 0 = Blk.none ∧ (besN (pF off) bl 0).isSome = false := fun h2 => by
    have e : besN (pF off) bl 0 = none := by
      unfold besN
      rw [fstN_not h2]
    unfold besB
    rw [e]
    exact ⟨rfl, rfl⟩
  have HB0 := Lib.hid hbn
  have HBZ := Lib.hid hbz
  have hlen := hb.len
  clear hbn hbz hb h
  go_enter Try.func14, Try.ntmps14
  go_wp2_with (go_at_call 12; refine hwk.mono ?_; rintro e w1 ⟨v, rfl, ho1, hg1⟩; obtain ⟨la, c, hv, hat⟩ := ho1.at_; subst hv)
  have HB := Lib.hid ((hg1.block _ (lt_of_block hb1) (by simp)).trans hb1)
  clear m0 m1 hb1 hwk
  obtain ⟨n, hn⟩ : ∃ n, bl.length = n := ⟨_, rfl⟩
  have HN := Lib.hid hn
  rw [hn] at hlen ⊢
  clear hn
  go_loop [8] (fun i => ∃ k : Nat, k ≤ n ∧ i = .int .i64 k ∧ Hid (∀ j, j < k → pF off (bl.getD j default) = false)) (fun i => n - (intOf i).toNat)
  case atStart => exact ⟨0, Nat.zero_le _, rfl, Lib.hid (fun j hj => absurd hj (Nat.not_lt_zero _))⟩
  case round =>
    obtain ⟨k, hk, rfl, HJ⟩ := hrel
    obtain ⟨d0, d1, d2, d3, d4⟩ := five_cells HB.out
    obtain ⟨f0, f1, f2, f3, f4⟩ := five_frozen HB.out
    rcases Nat.lt_or_ge k n with h1 | h1
    · obtain ⟨b, o, rfl, hb, hcs⟩ := hat.cells (by rw [HN.out]; omega)
      obtain ⟨c0, c1, c2, c3, c4⟩ := hcs k (by rw [HN.out]; exact h1)
      have hpk : pF off (bl.getD k default) = (gU bl k && (IntKind.u64.wrap ((gO bl k : Int) + 32) == (off : Int))) := by
        unfold pF gU gO
        congr 1
        rw [Bool.eq_iff_iff, decide_eq_true_iff, beq_iff_eq, IntKind.wrap_u64]
        omega
      cases hu : gU bl k with
      | false =>
        rw [hu] at c2 hpk
        rw [Bool.false_and] at hpk
        have HP := Lib.hid hpk
        clear hpk hcs hat hu
        go_wp2
        go_round
        case rel =>
          refine ⟨k + 1, by omega, by go_num, Lib.hid fun j hj => ?_⟩
          rcases Nat.lt_or_ge j k with h' | h'
          · exact HJ.out j h'
          · rw [show j = k by omega]; exact HP.out
        case measure => simp [intOf]; omega
      | true =>
        rw [hu] at c2 hpk
        rw [Bool.true_and] at hpk
        cases hx : (IntKind.u64.wrap ((gO bl k : Int) + 32) == (off : Int)) with
        | false =>
          rw [hx] at hpk
          have HP := Lib.hid hpk
          clear hpk hcs hat hu
          go_wp2
          go_round
          case rel =>
            refine ⟨k + 1, by omega, by go_num, Lib.hid fun j hj => ?_⟩
            rcases Nat.lt_or_ge j k with h' | h'
            · exact HJ.out j h'
            · rw [show j = k by omega]; exact HP.out
          case measure => simp [intOf]; omega
        | true =>
          rw [hx] at hpk
          obtain ⟨q1, q2⟩ := HB0.out k (by rw [HN.out]; exact h1) hpk HJ.out
          have hval : (bl.getD k default).val = .agg #[.int .u64 (gO bl k : Nat), .int .u64 (gS bl k : Nat), .bool (gU bl k), .int .i64 (gW bl k), .int .u64 (gN bl k : Nat)] := rfl
          rw [← q1, hu] at hval
          have Q1 := Lib.hid hval
          have Q2 := Lib.hid q2
          clear hpk hcs hat hu q1 q2 hval
          go_wp2
          have hb := five_put HB.out (x' := .int .u64 (gO bl k : Nat)) (y' := .int .u64 (gS bl k : Nat)) (z' := .bool true) (p' := .int .i64 (gW bl k)) (q' := .int .u64 (gN bl k : Nat))
          obtain ⟨k0, k1, k2, k3, k4⟩ := five_cells hb
          refine bodyPost_ret (v := .tuple #[.agg #[.int .u64 (gO bl k : Nat), .int .u64 (gS bl k : Nat), .bool true, .int .i64 (gW bl k), .int .u64 (gN bl k : Nat)], .bool true]) (by simp [results, Try.results14, go_sem, k0, k1, k2, k3, k4]) rfl ?_
          exact ⟨by rw [Q1.out, Q2.out], five_grown (grown_trans hg0 hg1) (by omega)⟩
    · obtain rfl : k = n := by omega
      obtain ⟨q1, q2⟩ := HBZ.out (by rw [HN.out]; exact HJ.out)
      have Q1 := Lib.hid q1
      have Q2 := Lib.hid q2
      clear hat q1 q2
      go_wp2
      have hb := five_put HB.out (x' := .int .u64 0) (y' := .int .u64 0) (z' := .bool false) (p' := .int .i64 0) (q' := .int .u64 0)
      obtain ⟨k0, k1, k2, k3, k4⟩ := five_cells hb
      refine bodyPost_ret (v := .tuple #[.agg #[.int .u64 0, .int .u64 0, .bool false, .int .i64 0, .int .u64 0], .bool false]) (by simp [results, Try.results14, go_sem, k0, k1, k2, k3, k4]) rfl ?_
      exact ⟨by rw [Q1.out, Q2.out]; rfl, five_grown (grown_trans hg0 hg1) (by omega)⟩
end
end Go.Proofs.Ytmhkibdbamhdoaa
