/-
  The plain answer of layer 8: Word, Get, Set and Do.
  Conditions: the words, and the pairs, are rows of the call's own, or nil; the numbers are of 64 bits.
-/
import Derived.Test.YtkpopaadkfgjaaaCliA
import Derived.Test.YtkpopaadkfgjaaaLTx
namespace Go.Proofs.Ytkpopaadkfgjaaa
open Go.RowKit
set_option linter.unusedVariables false
set_option linter.unusedSimpArgs false
set_option maxRecDepth 100000

set_option maxHeartbeats 1000000 in
theorem rcword_any (c : Int) (q : Nat) (w : World) : Calls Try.prog 51 #[.int .i64 c, .int .u64 q] w fun e w' => e = .returned (.tuple #[.int .u64 (wordN c q : Nat), .bool (decide (slotP c q))]) ∧ w = w' := by
  unfold wordN
  by_cases h0 : c < 0
  · have hs : ¬ slotP c q := fun h => by have := h.1.1; omega
    rw [if_neg hs, decide_eq_false hs]
    go_enter Try.func51, Try.ntmps51
    go_wp2
    refine bodyPost_ret (v := .tuple #[.int .u64 (0 : Nat), .bool false]) (by simp [results, Try.results51, go_sem, slotN]) rfl ⟨rfl, rfl⟩
  · by_cases h7 : 7 < c
    · have hs : ¬ slotP c q := fun h => by have := h.1.2; omega
      rw [if_neg hs, decide_eq_false hs]
      go_enter Try.func51, Try.ntmps51
      go_wp2
      refine bodyPost_ret (v := .tuple #[.int .u64 (0 : Nat), .bool false]) (by simp [results, Try.results51, go_sem, slotN]) rfl ⟨rfl, rfl⟩
    · by_cases h8 : (q : Int) % 8 = 0
      · by_cases hq : 416 ≤ (q : Int)
        · have hs : ¬ slotP c q := fun h => by have := h.2.2; omega
          rw [if_neg hs, decide_eq_false hs]
          go_enter Try.func51, Try.ntmps51
          go_wp2
          refine bodyPost_ret (v := .tuple #[.int .u64 (0 : Nat), .bool false]) (by simp [results, Try.results51, go_sem, slotN]) rfl ⟨rfl, rfl⟩
        · have hs : slotP c q := ⟨⟨by omega, by omega⟩, by omega, by omega⟩
          rw [if_pos hs, decide_eq_true hs]
          obtain ⟨k, rfl⟩ := Int.eq_ofNat_of_zero_le hs.1.1
          have hk : k < 8 := by have := hs.1.2; omega
          have e1 : IntKind.u64.wrap (k : Int) = (k : Nat) := by rw [IntKind.wrap_u64]; omega
          have e2 : IntKind.u64.wrap (416 * (k : Int)) = (416 * k : Nat) := by rw [IntKind.wrap_u64]; omega
          have e3 : IntKind.u64.wrap (64 + ((416 * k : Nat) : Int)) = (64 + 416 * k : Nat) := by rw [IntKind.wrap_u64]; omega
          have e4 : IntKind.u64.wrap (((64 + 416 * k : Nat) : Int) + (q : Int)) = (slotN (k : Int) q : Nat) := by rw [IntKind.wrap_u64]; unfold slotN; simp only [Int.toNat_natCast]; omega
          go_enter Try.func51, Try.ntmps51
          go_wp2
          refine bodyPost_ret (v := .tuple #[.int .u64 (slotN (k : Int) q : Nat), .bool true]) (by simp [results, Try.results51, go_sem, slotN]) rfl ⟨rfl, rfl⟩
      · have hs : ¬ slotP c q := fun h => by have := h.2.1; omega
        rw [if_neg hs, decide_eq_false hs]
        go_enter Try.func51, Try.ntmps51
        go_wp2
        refine bodyPost_ret (v := .tuple #[.int .u64 (0 : Nat), .bool false]) (by simp [results, Try.results51, go_sem, slotN]) rfl ⟨rfl, rfl⟩
/-- the box of a value, and that of a result -/
theorem txs_first {w w' : World} {x y x' y' : Value} {t t2 : TypeId} (hg : ((w.alloc (.cells #[x, y] t)).alloc (.cells #[x', y'] t2)).grownBy w' none) :
    w'.heap[w.heap.size]? = some (.cells #[x, y] t (0, 0)) ∧ w'.heap[w.heap.size + 1]? = some (.cells #[x', y'] t2 (0, 0)) := by
  have h1 : (w.alloc (.cells #[x, y] t)).heap[w.heap.size]? = some (.cells #[x, y] t (0, 0)) := heap_alloc_new' _ _
  have h2 := ((World.grownBy_alloc (w.alloc (.cells #[x, y] t)) (.cells #[x', y'] t2) none).block _ (lt_of_block h1) (by simp)).trans h1
  have h3 := heap_alloc_new' (w.alloc (.cells #[x, y] t)) (.cells #[x', y'] t2)
  rw [World.size_alloc] at h3
  exact ⟨(hg.block _ (lt_of_block h2) (by simp)).trans h2, (hg.block _ (lt_of_block h3) (by simp)).trans h3⟩
theorem tx_cells {w : World} {b : Nat} {x y : Value} {t : TypeId} (h : w.heap[b]? = some (.cells #[x, y] t (0, 0))) : w.cell? ⟨b, 0, none⟩ = some x ∧ w.cell? ⟨b, 1, none⟩ = some y ∧ w.frozen? ⟨b, 0, none⟩ = false ∧ w.frozen? ⟨b, 1, none⟩ = false :=
  ⟨by simp [World.cell?, h], by simp [World.cell?, h], by simp [World.frozen?, h], by simp [World.frozen?, h]⟩
theorem tx_one {w w' : World} {x y : Value} {t : TypeId} (hg : (w.alloc (.cells #[x, y] t)).grownBy w' none) : w'.heap[w.heap.size]? = some (.cells #[x, y] t (0, 0)) := by
  have h1 : (w.alloc (.cells #[x, y] t)).heap[w.heap.size]? = some (.cells #[x, y] t (0, 0)) := heap_alloc_new' _ _
  exact (hg.block _ (lt_of_block h1) (by simp)).trans h1
/-- a value goes into a result's box -/
theorem res_put {w w3 : World} {base b : Nat} {c : Array Value} {wv pv u v : Value} {ws : List Nat} {l : List (Nat × Nat)} (hg : w.grownBy w3 none) (hb : w.heap.size ≤ b) (hc : w3.heap[b]? = some (.cells c 27 (0, 0))) (h : RTx w3 base wv pv ws l) :
    RTx ((w3.setCell ⟨b, 0, none⟩ u).setCell ⟨b, 1, none⟩ v) base wv pv ws l ∧ w.grownBy ((w3.setCell ⟨b, 0, none⟩ u).setCell ⟨b, 1, none⟩ v) none := by
  have hs : w3.grownBy ((w3.setCell ⟨b, 0, none⟩ u).setCell ⟨b, 1, none⟩ v) (some b) := grown_trans (grown_set _ _ _ _) (grown_set _ _ _ _)
  exact ⟨h.other hc hs, grown_step hg hs (fun i hi => .inl (by injection hi with hi; omega))⟩
section
variable {w : World} {base : Nat} {wv pv : Value} {ws : List Nat} {l : List (Nat × Nat)}
set_option maxHeartbeats 1000000 in
theorem rcget_any (h : RTx w base wv pv ws l) (hm : ws.length ≤ 131072) (hl : l.length ≤ 1000000) (c : Int) (q : Nat) :
    Calls Try.prog 29 #[.agg #[wv, pv], .int .i64 c, .int .u64 q] w fun e w' => e = .returned (.int .u64 (cGet ws l c q : Nat)) ∧ w.grownBy w' none := by
  have hg0 : w.grownBy (w.alloc (.cells #[wv, pv] 27)) none := World.grownBy_alloc _ _ _
  have hw := fun w => rcword_any c q w
  unfold wordN at hw
  unfold cGet
  obtain ⟨wa, wc, wg, hwv, _, _⟩ := OwnW.addr h.words
  obtain ⟨pa, pc, pg, hpv, _, _⟩ := h.puts.addr
  subst hwv hpv
  by_cases hs : slotP c q
  · rw [decide_eq_true hs, if_pos hs] at hw
    have hld := rtxload_any (h.later hg0) hm hl (slotN c q) (by have := slot_lt hs; omega)
    rw [if_pos hs]
    obtain ⟨n, hn⟩ : ∃ n, slotN c q = n := ⟨_, rfl⟩
    rw [hn] at hw hld ⊢
    clear h
    go_enter Try.func29, Try.ntmps29
    go_wp2_with (first | (go_at_call 51; (with_reducible refine (hw _).mono ?_); rintro e w1 ⟨rfl, rfl⟩) | (go_at_call 30; (with_reducible refine hld.mono ?_); rintro e w2 ⟨rfl, hg2⟩))
    go_ret
    exact ⟨rfl, grown_trans hg0 hg2⟩
  · rw [decide_eq_false hs, if_neg hs] at hw
    rw [if_neg hs]
    clear h
    go_enter Try.func29, Try.ntmps29
    go_wp2_with (first | (go_at_call 51; (with_reducible refine (hw _).mono ?_); rintro e w1 ⟨rfl, rfl⟩))
    go_ret
    exact ⟨rfl, hg0⟩
/-- what is thought of behind a deed, and what is told -/
def didL (ws : List Nat) (l : List (Nat × Nat)) (d c : Int) : List (Nat × Nat) := if d = 1 then attL ws l c else if d = 2 then detL ws l c else if d = 3 then cSet ws l c 0 2 else cSet ws l c 0 0
def didE (ws : List Nat) (l : List (Nat × Nat)) (d c : Int) : Nat := if d = 1 then attE ws l c else if d = 2 then detE ws l c else becE c
def RDone (w : World) (base : Nat) (wv : Value) (ws : List Nat) (l : List (Nat × Nat)) (n : Nat) (e : Ending) (w' : World) : Prop := ∃ pv, e = .returned (.tuple #[.agg #[wv, pv], .int .i64 (n : Nat)]) ∧ RTx w' base wv pv ws l ∧ w.grownBy w' none
theorem did_not {c : Int} (h : ¬ thereP c) (ws : List Nat) (l : List (Nat × Nat)) (d : Int) : didL ws l d c = l ∧ didE ws l d c = 1 := by
  have h1 : ∀ q v, cSet ws l c q v = l := fun q v => if_neg (fun hs => h hs.1)
  have h2 : attL ws l c = l := if_neg (fun hs => h hs.1)
  have h3 : detL ws l c = l := if_neg (fun hs => h hs.1)
  have h4 : attE ws l c = 1 := if_neg h
  have h5 : detE ws l c = 1 := if_neg h
  have h6 : becE c = 1 := if_neg h
  unfold didL didE
  rw [h1, h1, h2, h3, h4, h5, h6]
  exact ⟨by simp, by simp⟩
end
end Go.Proofs.Ytkpopaadkfgjaaa
