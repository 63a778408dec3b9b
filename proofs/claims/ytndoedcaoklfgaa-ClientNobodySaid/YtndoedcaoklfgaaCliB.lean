/-
  The plain answer of layer 8: Word, Get, Set and Do.
  Conditions: the words, and the pairs, are rows of the call's own, or nil; the numbers are of 64 bits.
-/
import Derived.Test.YtndoedcaoklfgaaCliA
import Derived.Test.YtndoedcaoklfgaaTxT
import Derived.Test.YtndoedcaoklfgaaTxZ
namespace Go.Proofs.Ytndoedcaoklfgaa
open Go.RowKit
set_option linter.unusedVariables false
set_option linter.unusedSimpArgs false
set_option maxRecDepth 100000

set_option maxHeartbeats 1000000 in
theorem rcword_any (c : Int) (q : Nat) (w : World) : Calls Try.prog 23 #[.int .i64 c, .int .u64 q] w fun e w' => e = .returned (.tuple #[.int .u64 (wordN c q : Nat), .bool (decide (slotP c q))]) ∧ w = w' := by
  unfold wordN
  by_cases h0 : c < 0
  · have hs : ¬ slotP c q := fun h => by have := h.1.1; omega
    rw [if_neg hs, decide_eq_false hs]
    go_enter Try.func23, Try.ntmps23
    go_wp2
    refine bodyPost_ret (v := .tuple #[.int .u64 (0 : Nat), .bool false]) (by simp [results, Try.results23, go_sem, slotN]) rfl ⟨rfl, rfl⟩
  · by_cases h7 : 7 < c
    · have hs : ¬ slotP c q := fun h => by have := h.1.2; omega
      rw [if_neg hs, decide_eq_false hs]
      go_enter Try.func23, Try.ntmps23
      go_wp2
      refine bodyPost_ret (v := .tuple #[.int .u64 (0 : Nat), .bool false]) (by simp [results, Try.results23, go_sem, slotN]) rfl ⟨rfl, rfl⟩
    · by_cases h8 : (q : Int) % 8 = 0
      · by_cases hq : 416 ≤ (q : Int)
        · have hs : ¬ slotP c q := fun h => by have := h.2.2; omega
          rw [if_neg hs, decide_eq_false hs]
          go_enter Try.func23, Try.ntmps23
          go_wp2
          refine bodyPost_ret (v := .tuple #[.int .u64 (0 : Nat), .bool false]) (by simp [results, Try.results23, go_sem, slotN]) rfl ⟨rfl, rfl⟩
        · have hs : slotP c q := ⟨⟨by omega, by omega⟩, by omega, by omega⟩
          rw [if_pos hs, decide_eq_true hs]
          obtain ⟨k, rfl⟩ := Int.eq_ofNat_of_zero_le hs.1.1
          have hk : k < 8 := by have := hs.1.2; omega
          have e1 : IntKind.u64.wrap (k : Int) = (k : Nat) := by rw [IntKind.wrap_u64]; omega
          have e2 : IntKind.u64.wrap (416 * (k : Int)) = (416 * k : Nat) := by rw [IntKind.wrap_u64]; omega
          have e3 : IntKind.u64.wrap (64 + ((416 * k : Nat) : Int)) = (64 + 416 * k : Nat) := by rw [IntKind.wrap_u64]; omega
          have e4 : IntKind.u64.wrap (((64 + 416 * k : Nat) : Int) + (q : Int)) = (slotN (k : Int) q : Nat) := by rw [IntKind.wrap_u64]; unfold slotN; simp only [Int.toNat_natCast]; omega
          go_enter Try.func23, Try.ntmps23
          go_wp2
          refine bodyPost_ret (v := .tuple #[.int .u64 (slotN (k : Int) q : Nat), .bool true]) (by simp [results, Try.results23, go_sem, slotN]) rfl ⟨rfl, rfl⟩
      · have hs : ¬ slotP c q := fun h => by have := h.2.1; omega
        rw [if_neg hs, decide_eq_false hs]
        go_enter Try.func23, Try.ntmps23
        go_wp2
        refine bodyPost_ret (v := .tuple #[.int .u64 (0 : Nat), .bool false]) (by simp [results, Try.results23, go_sem, slotN]) rfl ⟨rfl, rfl⟩
/-- the box of a value, and that of a result -/
theorem txs_first {w w' : World} {x y x' y' : Value} {t t2 : TypeId} (hg : ((w.alloc (.cells #[x, y] t)).alloc (.cells #[x', y'] t2)).grownBy w' none) :
    w'.heap[w.heap.size]? = some (.cells #[x, y] t (0, 0)) ∧ w'.heap[w.heap.size + 1]? = some (.cells #[x', y'] t2 (0, 0)) := by
  have h1 : (w.alloc (.cells #[x, y] t)).heap[w.heap.size]? = some (.cells #[x, y] t (0, 0)) := heap_alloc_new' _ _
  have h2 := ((World.grownBy_alloc (w.alloc (.cells #[x, y] t)) (.cells #[x', y'] t2) none).block _ (lt_of_block h1) (by simp)).trans h1
  have h3 := heap_alloc_new' (w.alloc (.cells #[x, y] t)) (.cells #[x', y'] t2)
  rw [World.size_alloc] at h3
  exact ⟨(hg.block _ (lt_of_block h2) (by simp)).trans h2, (hg.block _ (lt_of_block h3) (by simp)).trans h3⟩
theorem tx_cells {w : World} {b : Nat} {x y : Value} {t : TypeId} (h : w.heap[b]? = some (.cells #[x, y] t (0, 0))) : w.cell? ⟨b, 0, none⟩ = some x ∧ w.cell? ⟨b, 1, none⟩ = some y ∧ w.frozen? ⟨b, 0, none⟩ = false ∧ w.frozen? ⟨b, 1, none⟩ = false :=
  ⟨by simp [World.cell?, h], by simp [World.cell?, h], by simp [World.frozen?, h], by simp [World.frozen?, h]⟩
theorem tx_one {w w' : World} {x y : Value} {t : TypeId} (hg : (w.alloc (.cells #[x, y] t)).grownBy w' none) : w'.heap[w.heap.size]? = some (.cells #[x, y] t (0, 0)) := by
  have h1 : (w.alloc (.cells #[x, y] t)).heap[w.heap.size]? = some (.cells #[x, y] t (0, 0)) := heap_alloc_new' _ _
  exact (hg.block _ (lt_of_block h1) (by simp)).trans h1
/-- a value goes into a result's box -/
theorem res_put {w w3 : World} {base b : Nat} {c : Array Value} {wv pv u v : Value} {ws : List Nat} {l : List (Nat × Nat)} (hg : w.grownBy w3 none) (hb : w.heap.size ≤ b) (hc : w3.heap[b]? = some (.cells c 29 (0, 0))) (h : RTx w3 base wv pv ws l) :
    RTx ((w3.setCell ⟨b, 0, none⟩ u).setCell ⟨b, 1, none⟩ v) base wv pv ws l ∧ w.grownBy ((w3.setCell ⟨b, 0, none⟩ u).setCell ⟨b, 1, none⟩ v) none := by
  have hs : w3.grownBy ((w3.setCell ⟨b, 0, none⟩ u).setCell ⟨b, 1, none⟩ v) (some b) := grown_trans (grown_set _ _ _ _) (grown_set _ _ _ _)
  exact ⟨h.other hc hs, grown_step hg hs (fun i hi => .inl (by injection hi with hi; omega))⟩
section
variable {w : World} {base : Nat} {wv pv : Value} {ws : List Nat} {l : List (Nat × Nat)}
set_option maxHeartbeats 1000000 in
theorem rcget_any (h : RTx w base wv pv ws l) (hm : ws.length ≤ 131072) (hl : l.length ≤ 1000000) (c : Int) (q : Nat) :
    Calls Try.prog 15 #[.agg #[wv, pv], .int .i64 c, .int .u64 q] w fun e w' => e = .returned (.int .u64 (cGet ws l c q : Nat)) ∧ w.grownBy w' none := by
  have hg0 : w.grownBy (w.alloc (.cells #[wv, pv] 29)) none := World.grownBy_alloc _ _ _
  have hw := fun w => rcword_any c q w
  unfold wordN at hw
  unfold cGet
  obtain ⟨wa, wc, wg, hwv, _, _⟩ := OwnW.addr h.words
  obtain ⟨pa, pc, pg, hpv, _, _⟩ := h.puts.addr
  subst hwv hpv
  by_cases hs : slotP c q
  · rw [decide_eq_true hs, if_pos hs] at hw
    have hld := rtxload_any (h.later hg0) hm hl (slotN c q) (by have := slot_lt hs; omega)
    rw [if_pos hs]
    obtain ⟨n, hn⟩ : ∃ n, slotN c q = n := ⟨_, rfl⟩
    rw [hn] at hw hld ⊢
    clear h
    go_enter Try.func15, Try.ntmps15
    go_wp2_with (first | (go_at_call 23; (with_reducible refine (hw _).mono ?_); rintro e w1 ⟨rfl, rfl⟩) | (go_at_call 36; (with_reducible refine hld.mono ?_); rintro e w2 ⟨rfl, hg2⟩))
    go_ret
    exact ⟨rfl, grown_trans hg0 hg2⟩
  · rw [decide_eq_false hs, if_neg hs] at hw
    rw [if_neg hs]
    clear h
    go_enter Try.func15, Try.ntmps15
    go_wp2_with (first | (go_at_call 23; (with_reducible refine (hw _).mono ?_); rintro e w1 ⟨rfl, rfl⟩))
    go_ret
    exact ⟨rfl, hg0⟩
set_option maxHeartbeats 1000000 in
theorem rcset_any (h : RTx w base wv pv ws l) (hbase : base ≤ w.heap.size) (hm : ws.length ≤ 131072) (hl : l.length ≤ 1000000) (c : Int) (q v : Nat) :
    Calls Try.prog 12 #[.agg #[wv, pv], .int .i64 c, .int .u64 q, .int .u64 v] w (RStored w base wv ws (cSet ws l c q v)) := by
  have hg0 : w.grownBy ((w.alloc (.cells #[wv, pv] 29)).alloc (.cells #[.slice none 0 0, .slice none 0 0] 29)) none := grown_trans (World.grownBy_alloc _ _ _) (World.grownBy_alloc _ _ _)
  obtain ⟨k1, k2⟩ := txs_first (w := w) (x := wv) (y := pv) (x' := .slice none 0 0) (y' := .slice none 0 0) (t := 29) (t2 := 29) (grown_refl _ _)
  obtain ⟨q1, q2, _, _⟩ := tx_cells k1
  obtain ⟨q3, q4, q5, q6⟩ := tx_cells k2
  have h0 := h.later hg0
  have hw := fun w => rcword_any c q w
  unfold wordN at hw
  unfold cSet
  obtain ⟨wa, wc, wg, hwv, _, _⟩ := OwnW.addr h.words
  obtain ⟨pa, pc, pg, hpv, _, _⟩ := h.puts.addr
  subst hwv hpv
  have K2 := Lib.hid k2
  have HG := Lib.hid hg0
  by_cases hs : slotP c q
  · rw [decide_eq_true hs, if_pos hs] at hw
    have hst := rtxstore_any h0 (Nat.le_trans hbase hg0.size) hm hl (slotN c q) v (by have := slot_lt hs; omega)
    rw [if_pos hs]
    obtain ⟨n, hn⟩ : ∃ n, slotN c q = n := ⟨_, rfl⟩
    rw [hn] at hw hst ⊢
    clear h h0 k1 k2 hg0
    go_enter Try.func12, Try.ntmps12
    go_wp2_with (first | (go_at_call 23; (with_reducible refine (hw _).mono ?_); rintro e w1 ⟨rfl, rfl⟩) | (go_at_call 33; (with_reducible refine hst.mono ?_); rintro e w2 ⟨pv2, rfl, hr2, hg2⟩; obtain ⟨pa2, pn2, pc2, hpv2⟩ := pv_form hr2.puts; subst hpv2; have k3 := (hg2.block _ (lt_of_block K2.out) (by simp)).trans K2.out; obtain ⟨c3, c4, c5, c6⟩ := tx_cells k3))
    obtain ⟨e1, e2⟩ := res_put (u := .slice wa ws.length wc) (v := .slice pa2 pn2 pc2) (grown_trans HG.out hg2) (Nat.le_succ _) k3 hr2
    refine bodyPost_ret (v := .agg #[.slice wa ws.length wc, .slice pa2 pn2 pc2]) (by simp [results, Try.results12, go_sem, c3, c4]) rfl ⟨_, rfl, e1, e2⟩
  · rw [decide_eq_false hs, if_neg hs] at hw
    rw [if_neg hs]
    have e2 : w.grownBy ((w.alloc (.cells #[.slice wa ws.length wc, .slice pa l.length pc] 29)).alloc (.cells #[.slice wa ws.length wc, .slice pa l.length pc] 29)) none := grown_trans (World.grownBy_alloc _ _ _) (World.grownBy_alloc _ _ _)
    have e1 := h.later e2
    clear h h0 k1 k2 hg0
    go_enter Try.func12, Try.ntmps12
    go_wp2_with (first | (go_at_call 23; (with_reducible refine (hw _).mono ?_); rintro e w1 ⟨rfl, rfl⟩))
    refine bodyPost_ret (v := .agg #[.slice wa ws.length wc, .slice pa l.length pc]) (by simp [results, Try.results12, go_sem]) rfl ⟨_, rfl, e1, e2⟩
/-- what is thought of behind a deed, and what is told -/
def didL (ws : List Nat) (l : List (Nat × Nat)) (d c : Int) : List (Nat × Nat) := if d = 1 then attL ws l c else if d = 2 then detL ws l c else if d = 3 then cSet ws l c 0 2 else cSet ws l c 0 0
def didE (ws : List Nat) (l : List (Nat × Nat)) (d c : Int) : Nat := if d = 1 then attE ws l c else if d = 2 then detE ws l c else becE c
def RDone (w : World) (base : Nat) (wv : Value) (ws : List Nat) (l : List (Nat × Nat)) (n : Nat) (e : Ending) (w' : World) : Prop := ∃ pv, e = .returned (.tuple #[.agg #[wv, pv], .int .i64 (n : Nat)]) ∧ RTx w' base wv pv ws l ∧ w.grownBy w' none
theorem did_not {c : Int} (h : ¬ thereP c) (ws : List Nat) (l : List (Nat × Nat)) (d : Int) : didL ws l d c = l ∧ didE ws l d c = 1 := by
  have h1 : ∀ q v, cSet ws l c q v = l := fun q v => if_neg (fun hs => h hs.1)
  have h2 : attL ws l c = l := if_neg (fun hs => h hs.1)
  have h3 : detL ws l c = l := if_neg (fun hs => h hs.1)
  have h4 : attE ws l c = 1 := if_neg h
  have h5 : detE ws l c = 1 := if_neg h
  have h6 : becE c = 1 := if_neg h
  unfold didL didE
  rw [h1, h1, h2, h3, h4, h5, h6]
  exact ⟨by simp, by simp⟩
set_option maxHeartbeats 4000000 in
theorem rcdo_any (h : RTx w base wv pv ws l) (hbase : base ≤ w.heap.size) (hm : ws.length ≤ 131072) (hl : l.length ≤ 1000000) (d c : Int) :
    Calls Try.prog 13 #[.agg #[wv, pv], .int .i64 d, .int .i64 c] w (RDone w base wv ws (didL ws l d c) (didE ws l d c)) := by
  have hg0 : w.grownBy ((w.alloc (.cells #[wv, pv] 29)).alloc (.cells #[.slice none 0 0, .slice none 0 0] 29)) none := grown_trans (World.grownBy_alloc _ _ _) (World.grownBy_alloc _ _ _)
  obtain ⟨k1, k2⟩ := txs_first (w := w) (x := wv) (y := pv) (x' := .slice none 0 0) (y' := .slice none 0 0) (t := 29) (t2 := 29) (grown_refl _ _)
  obtain ⟨q1, q2, _, _⟩ := tx_cells k1
  obtain ⟨q3, q4, q5, q6⟩ := tx_cells k2
  have h0 := h.later hg0
  have hsz := hg0.size
  have hget : ∀ (w1 : World) (hg : w.grownBy w1 none), Calls Try.prog 15 #[.agg #[wv, pv], .int .i64 c, .int .u64 0] w1 _ := fun w1 hg => rcget_any (h.later hg) hm hl c 0
  have hget8 : ∀ (w1 : World) (hg : w.grownBy w1 none), Calls Try.prog 15 #[.agg #[wv, pv], .int .i64 c, .int .u64 8] w1 _ := fun w1 hg => rcget_any (h.later hg) hm hl c 8
  have hset : ∀ (w1 : World) (hg : w.grownBy w1 none) (v : Nat), Calls Try.prog 12 #[.agg #[wv, pv], .int .i64 c, .int .u64 0, .int .u64 v] w1 _ := fun w1 hg v => rcset_any (h.later hg) (Nat.le_trans hbase hg.size) hm hl c 0 v
  have hset0 : ∀ (w1 : World) (hg : w.grownBy w1 none), Calls Try.prog 12 #[.agg #[wv, pv], .int .i64 c, .int .u64 0, .int .u64 0] w1 _ := fun w1 hg => hset w1 hg 0
  have hset1 : ∀ (w1 : World) (hg : w.grownBy w1 none), Calls Try.prog 12 #[.agg #[wv, pv], .int .i64 c, .int .u64 0, .int .u64 1] w1 _ := fun w1 hg => hset w1 hg 1
  have hset2 : ∀ (w1 : World) (hg : w.grownBy w1 none), Calls Try.prog 12 #[.agg #[wv, pv], .int .i64 c, .int .u64 0, .int .u64 2] w1 _ := fun w1 hg => hset w1 hg 2
  clear hset
  obtain ⟨wa, wc, wg, hwv, _, _⟩ := OwnW.addr h.words
  obtain ⟨pa, pc, pg, hpv, _, _⟩ := h.puts.addr
  subst hwv hpv
  have K1 := Lib.hid k1
  have K2 := Lib.hid k2
  have HG := Lib.hid hg0
  have HR := Lib.hid h
  by_cases hc : thereP c
  · have c1 : ¬ c < 0 := by have := hc.1; omega
    have c2 : ¬ 7 < c := by have := hc.2; omega
    have hbe : becE c = 0 := if_pos hc
    have ha : attE ws l c = if cGet ws l c 0 = 0 then 0 else if cGet ws l c 0 = 1 then 7 else 13 := if_pos hc
    have hal : attL ws l c = if cGet ws l c 0 = 0 then cSet ws l c 0 1 else l := by unfold attL; simp [hc]
    have hd : detE ws l c = if cGet ws l c 0 = 1 then if cGet ws l c 8 = 0 then 0 else 11 else 10 := if_pos hc
    have hdl : detL ws l c = if cGet ws l c 0 = 1 ∧ cGet ws l c 8 = 0 then cSet ws l c 0 0 else l := by unfold detL; simp [hc]
    unfold didL didE
    rw [hbe, ha, hal, hd, hdl]
    obtain ⟨x, hx⟩ : ∃ x, cGet ws l c 0 = x := ⟨_, rfl⟩
    obtain ⟨y, hy⟩ : ∃ y, cGet ws l c 8 = y := ⟨_, rfl⟩
    rw [hx] at hget ⊢
    rw [hy] at hget8 ⊢
    clear hx hy hbe ha hal hd hdl h h0 k1 k2 hg0 hsz
    by_cases hd1 : d = 1
    · subst hd1
      simp only [if_pos]
      by_cases hx1 : x = 1
      · subst hx1
        simp only [Nat.one_ne_zero, if_false, if_pos]
        go_enter Try.func13, Try.ntmps13
        go_wp2_with (first | (go_at_call 15; (with_reducible refine (hget _ (grown_trans HG.out (grown_refl _ _))).mono ?_); rintro e w1 ⟨rfl, hg1⟩; have hB1 := grown_trans (grown_refl _ _) hg1; obtain ⟨k1, k2⟩ := txs_first hB1; obtain ⟨a1, a2, _, _⟩ := tx_cells k1; obtain ⟨a3, a4, a5, a6⟩ := tx_cells k2))
        obtain ⟨e1, e2⟩ := res_put (u := .slice wa ws.length wc) (v := .slice pa l.length pc) (grown_trans HG.out hB1) (Nat.le_succ _) k2 (HR.out.later (grown_trans HG.out hB1))
        refine bodyPost_ret (v := .tuple #[.agg #[.slice wa ws.length wc, .slice pa l.length pc], .int .i64 7]) (by simp [results, Try.results13, go_sem, a3, a4]) rfl ⟨_, rfl, e1, e2⟩
      · have hx1' : ¬ (x : Int) = 1 := by omega
        by_cases hx0 : x = 0
        · subst hx0
          simp only [if_pos]
          go_enter Try.func13, Try.ntmps13
          go_wp2_with (first | (go_at_call 15; (with_reducible refine (hget _ (grown_trans HG.out (grown_refl _ _))).mono ?_); rintro e w1 ⟨rfl, hg1⟩; have hB1 := grown_trans (grown_refl _ _) hg1; obtain ⟨k1, k2⟩ := txs_first hB1; obtain ⟨a1, a2, _, _⟩ := tx_cells k1; obtain ⟨a3, a4, a5, a6⟩ := tx_cells k2) | (go_at_call 12; (with_reducible refine (hset1 _ (grown_trans HG.out hB1)).mono ?_); rintro e w2 ⟨pv2, rfl, hr2, hg2⟩; obtain ⟨pa2, pn2, pc2, hpv2⟩ := pv_form hr2.puts; subst hpv2; have hB2 := grown_trans hB1 hg2; obtain ⟨k1, k2⟩ := txs_first hB2; obtain ⟨a1, a2, _, _⟩ := tx_cells k1; obtain ⟨a3, a4, a5, a6⟩ := tx_cells k2))
          obtain ⟨e1, e2⟩ := res_put (u := .slice wa ws.length wc) (v := .slice pa2 pn2 pc2) (grown_trans HG.out hB2) (Nat.le_succ _) k2 hr2
          refine bodyPost_ret (v := .tuple #[.agg #[.slice wa ws.length wc, .slice pa2 pn2 pc2], .int .i64 0]) (by simp [results, Try.results13, go_sem, a3, a4]) rfl ⟨_, rfl, e1, e2⟩
        · have hx0' : ¬ (x : Int) = 0 := by omega
          rw [if_neg hx0, if_neg hx0, if_neg hx1]
          go_enter Try.func13, Try.ntmps13
          go_wp2_with (first | (go_at_call 15; (with_reducible refine (hget _ (grown_trans HG.out (grown_refl _ _))).mono ?_); rintro e w1 ⟨rfl, hg1⟩; have hB1 := grown_trans (grown_refl _ _) hg1; obtain ⟨k1, k2⟩ := txs_first hB1; obtain ⟨a1, a2, _, _⟩ := tx_cells k1; obtain ⟨a3, a4, a5, a6⟩ := tx_cells k2))
          obtain ⟨e1, e2⟩ := res_put (u := .slice wa ws.length wc) (v := .slice pa l.length pc) (grown_trans HG.out hB1) (Nat.le_succ _) k2 (HR.out.later (grown_trans HG.out hB1))
          refine bodyPost_ret (v := .tuple #[.agg #[.slice wa ws.length wc, .slice pa l.length pc], .int .i64 13]) (by simp [results, Try.results13, go_sem, a3, a4]) rfl ⟨_, rfl, e1, e2⟩
    · have hd1' : (d == 1) = false := by simpa using hd1
      rw [if_neg hd1, if_neg hd1]
      by_cases hd2 : d = 2
      · subst hd2
        simp only [if_pos]
        by_cases hx1 : x = 1
        · subst hx1
          by_cases hy0 : y = 0
          · subst hy0
            simp only [if_pos, and_self]
            go_enter Try.func13, Try.ntmps13
            go_wp2_with (first | (go_at_call 15; (with_reducible refine (hget _ (grown_trans HG.out (grown_refl _ _))).mono ?_); rintro e w1 ⟨rfl, hg1⟩; have hB1 := grown_trans (grown_refl _ _) hg1; obtain ⟨k1, k2⟩ := txs_first hB1; obtain ⟨a1, a2, _, _⟩ := tx_cells k1; obtain ⟨a3, a4, a5, a6⟩ := tx_cells k2) | (go_at_call 15; (with_reducible refine (hget8 _ (grown_trans HG.out hB1)).mono ?_); rintro e w2 ⟨rfl, hg2⟩; have hB2 := grown_trans hB1 hg2; obtain ⟨k1, k2⟩ := txs_first hB2; obtain ⟨a1, a2, _, _⟩ := tx_cells k1; obtain ⟨a3, a4, a5, a6⟩ := tx_cells k2) | (go_at_call 12; (with_reducible refine (hset0 _ (grown_trans HG.out hB2)).mono ?_); rintro e w3 ⟨pv3, rfl, hr3, hg3⟩; obtain ⟨pa3, pn3, pc3, hpv3⟩ := pv_form hr3.puts; subst hpv3; have hB3 := grown_trans hB2 hg3; obtain ⟨k1, k2⟩ := txs_first hB3; obtain ⟨a1, a2, _, _⟩ := tx_cells k1; obtain ⟨a3, a4, a5, a6⟩ := tx_cells k2))
            obtain ⟨e1, e2⟩ := res_put (u := .slice wa ws.length wc) (v := .slice pa3 pn3 pc3) (grown_trans HG.out hB3) (Nat.le_succ _) k2 hr3
            refine bodyPost_ret (v := .tuple #[.agg #[.slice wa ws.length wc, .slice pa3 pn3 pc3], .int .i64 0]) (by simp [results, Try.results13, go_sem, a3, a4]) rfl ⟨_, rfl, e1, e2⟩
          · have hy0' : ¬ (y : Int) = 0 := by omega
            simp only [if_pos, hy0, and_false, if_false]
            go_enter Try.func13, Try.ntmps13
            go_wp2_with (first | (go_at_call 15; (with_reducible refine (hget _ (grown_trans HG.out (grown_refl _ _))).mono ?_); rintro e w1 ⟨rfl, hg1⟩; have hB1 := grown_trans (grown_refl _ _) hg1; obtain ⟨k1, k2⟩ := txs_first hB1; obtain ⟨a1, a2, _, _⟩ := tx_cells k1; obtain ⟨a3, a4, a5, a6⟩ := tx_cells k2) | (go_at_call 15; (with_reducible refine (hget8 _ (grown_trans HG.out hB1)).mono ?_); rintro e w2 ⟨rfl, hg2⟩; have hB2 := grown_trans hB1 hg2; obtain ⟨k1, k2⟩ := txs_first hB2; obtain ⟨a1, a2, _, _⟩ := tx_cells k1; obtain ⟨a3, a4, a5, a6⟩ := tx_cells k2))
            obtain ⟨e1, e2⟩ := res_put (u := .slice wa ws.length wc) (v := .slice pa l.length pc) (grown_trans HG.out hB2) (Nat.le_succ _) k2 (HR.out.later (grown_trans HG.out hB2))
            refine bodyPost_ret (v := .tuple #[.agg #[.slice wa ws.length wc, .slice pa l.length pc], .int .i64 11]) (by simp [results, Try.results13, go_sem, a3, a4]) rfl ⟨_, rfl, e1, e2⟩
        · have hx1' : ¬ (x : Int) = 1 := by omega
          simp only [hx1, false_and, if_false]
          go_enter Try.func13, Try.ntmps13
          go_wp2_with (first | (go_at_call 15; (with_reducible refine (hget _ (grown_trans HG.out (grown_refl _ _))).mono ?_); rintro e w1 ⟨rfl, hg1⟩; have hB1 := grown_trans (grown_refl _ _) hg1; obtain ⟨k1, k2⟩ := txs_first hB1; obtain ⟨a1, a2, _, _⟩ := tx_cells k1; obtain ⟨a3, a4, a5, a6⟩ := tx_cells k2))
          obtain ⟨e1, e2⟩ := res_put (u := .slice wa ws.length wc) (v := .slice pa l.length pc) (grown_trans HG.out hB1) (Nat.le_succ _) k2 (HR.out.later (grown_trans HG.out hB1))
          refine bodyPost_ret (v := .tuple #[.agg #[.slice wa ws.length wc, .slice pa l.length pc], .int .i64 10]) (by simp [results, Try.results13, go_sem, a3, a4]) rfl ⟨_, rfl, e1, e2⟩
      · rw [if_neg hd2, if_neg hd2]
        by_cases hd3 : d = 3
        · subst hd3
          simp only [if_pos]
          go_enter Try.func13, Try.ntmps13
          go_wp2_with (first | (go_at_call 15; (with_reducible refine (hget _ (grown_trans HG.out (grown_refl _ _))).mono ?_); rintro e w1 ⟨rfl, hg1⟩; have hB1 := grown_trans (grown_refl _ _) hg1; obtain ⟨k1, k2⟩ := txs_first hB1; obtain ⟨a1, a2, _, _⟩ := tx_cells k1; obtain ⟨a3, a4, a5, a6⟩ := tx_cells k2) | (go_at_call 12; (with_reducible refine (hset2 _ (grown_trans HG.out hB1)).mono ?_); rintro e w2 ⟨pv2, rfl, hr2, hg2⟩; obtain ⟨pa2, pn2, pc2, hpv2⟩ := pv_form hr2.puts; subst hpv2; have hB2 := grown_trans hB1 hg2; obtain ⟨k1, k2⟩ := txs_first hB2; obtain ⟨a1, a2, _, _⟩ := tx_cells k1; obtain ⟨a3, a4, a5, a6⟩ := tx_cells k2))
          obtain ⟨e1, e2⟩ := res_put (u := .slice wa ws.length wc) (v := .slice pa2 pn2 pc2) (grown_trans HG.out hB2) (Nat.le_succ _) k2 hr2
          refine bodyPost_ret (v := .tuple #[.agg #[.slice wa ws.length wc, .slice pa2 pn2 pc2], .int .i64 0]) (by simp [results, Try.results13, go_sem, a3, a4]) rfl ⟨_, rfl, e1, e2⟩
        · rw [if_neg hd3]
          go_enter Try.func13, Try.ntmps13
          go_wp2_with (first | (go_at_call 15; (with_reducible refine (hget _ (grown_trans HG.out (grown_refl _ _))).mono ?_); rintro e w1 ⟨rfl, hg1⟩; have hB1 := grown_trans (grown_refl _ _) hg1; obtain ⟨k1, k2⟩ := txs_first hB1; obtain ⟨a1, a2, _, _⟩ := tx_cells k1; obtain ⟨a3, a4, a5, a6⟩ := tx_cells k2) | (go_at_call 12; (with_reducible refine (hset0 _ (grown_trans HG.out hB1)).mono ?_); rintro e w2 ⟨pv2, rfl, hr2, hg2⟩; obtain ⟨pa2, pn2, pc2, hpv2⟩ := pv_form hr2.puts; subst hpv2; have hB2 := grown_trans hB1 hg2; obtain ⟨k1, k2⟩ := txs_first hB2; obtain ⟨a1, a2, _, _⟩ := tx_cells k1; obtain ⟨a3, a4, a5, a6⟩ := tx_cells k2))
          obtain ⟨e1, e2⟩ := res_put (u := .slice wa ws.length wc) (v := .slice pa2 pn2 pc2) (grown_trans HG.out hB2) (Nat.le_succ _) k2 hr2
          refine bodyPost_ret (v := .tuple #[.agg #[.slice wa ws.length wc, .slice pa2 pn2 pc2], .int .i64 0]) (by simp [results, Try.results13, go_sem, a3, a4]) rfl ⟨_, rfl, e1, e2⟩
  · obtain ⟨e1, e2⟩ := did_not hc ws l d
    rw [e1, e2]
    have e2 : w.grownBy ((w.alloc (.cells #[.slice wa ws.length wc, .slice pa l.length pc] 29)).alloc (.cells #[.slice wa ws.length wc, .slice pa l.length pc] 29)) none := grown_trans (World.grownBy_alloc _ _ _) (World.grownBy_alloc _ _ _)
    have e1 := h.later e2
    clear h h0 k1 k2 hg0
    by_cases hc0 : c < 0
    · skip
      go_enter Try.func13, Try.ntmps13
      go_wp2
      refine bodyPost_ret (v := .tuple #[.agg #[.slice wa ws.length wc, .slice pa l.length pc], .int .i64 1]) (by simp [results, Try.results13, go_sem]) rfl ⟨_, rfl, e1, e2⟩
    · have hc7 : 7 < c := by unfold thereP at hc; omega
      go_enter Try.func13, Try.ntmps13
      go_wp2
      refine bodyPost_ret (v := .tuple #[.agg #[.slice wa ws.length wc, .slice pa l.length pc], .int .i64 1]) (by simp [results, Try.results13, go_sem]) rfl ⟨_, rfl, e1, e2⟩
end
end Go.Proofs.Ytndoedcaoklfgaa
