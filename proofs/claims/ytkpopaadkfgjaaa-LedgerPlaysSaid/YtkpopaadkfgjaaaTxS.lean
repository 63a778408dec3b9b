/-
  The contract of the plain answer Store of layer 3: a value of its own that thinks of the word, or what came in.
  Conditions: the words, and the pairs, are rows of the call's own, or nil; the numbers are of 64 bits.
-/
import Derived.Test.YtkpopaadkfgjaaaTxR
namespace Go.Proofs.Ytkpopaadkfgjaaa
open Go.RowKit
set_option linter.unusedVariables false
set_option linter.unusedSimpArgs false

/-- 'append([]api.Put{}, p...)': a row of its own that holds the same pairs. -/
theorem wpList_append_pairs {w : World} {base : Nat} {l : List (Nat × Nat)} {pv : Value} (hw : OwnP w base pv l) (hm : l.length ≤ 1000000)
    {ops : Array Oper} {rest : List Oper} {o : Oper} {a : Act} {Q : Exit → Act → World → Prop} (hgd : o.guard = none) (s x : Operand)
    (ho : o.op = .call { callee := .builtin .append, args := #[s, x], argTypes := #[22, 22] })
    (hs : a.eval s = .slice (some ⟨w.heap.size, 0, none⟩) 0 0) (hx : a.eval x = pv)
    (h : ∀ g cp w', w.grownBy w' none → w.heap.size ≤ g → OwnP w' w.heap.size (.slice (some ⟨g, 0, none⟩) l.length cp) l → wpList Try.prog ops Q rest (a.put o.dst (.slice (some ⟨g, 0, none⟩) l.length cp)) w') :
    wpList Try.prog ops Q (o :: rest) a (w.alloc (.cells #[] 67)) := by
  obtain ⟨i0, hi, hz0, hz1, hz2⟩ := info_parts info_put
  have hown0 : (w.alloc (.cells #[] 67)).ownsRow w.heap.size 67 2 (.slice (some ⟨w.heap.size, 0, none⟩) 0 0) 0 [] := World.ownsRow_lit (base := w.heap.size) (e := 67) (size := 2) w #[] 0 (Nat.le_refl _) (by decide) rfl
  have ha : w.grownBy (w.alloc (.cells #[] 67)) none := World.grownBy_alloc _ _ _
  rcases hw.2 with ⟨rfl, h0⟩ | ⟨g0, c0, cur, rfl, _⟩
  · have hl : l = [] := List.eq_nil_of_length_eq_zero h0
    subst hl
    refine wpList_append_own_none hgd s x 22 ho w.heap.size 67 i0 2 Try.underlying22 hi _ 0 [] hs hown0 hx ?_
    exact h w.heap.size 0 _ ha (Nat.le_refl _) hown0
  · have hsrc : ∀ j u, (cellsP l)[j]? = some u → (w.alloc (.cells #[] 67)).cell? ((⟨g0, 0, none⟩ : Addr).add j) = some u := World.ownsRow.cells (World.ownsRow.alloc hw _) rfl
    refine wpList_append_own _ hgd s x 22 ho w.heap.size 67 i0 (.agg #[.int .u64 0, .int .u64 0]) 2 16 Try.underlying22 hi hz0 hz1 hz2 rfl (by decide) _ 0 [] hs hown0 ⟨g0, 0, none⟩ l.length c0 (cellsP l) hx (cellsP_len l) hsrc (cellsP_one l) (by unfold maxLen; omega) (by omega) (by rw [World.size_alloc]; omega) ?_
    intro v' w1 hown hgrow hnil
    rw [Nat.zero_add, List.nil_append] at hown
    have hg1 : w.grownBy w1 none := grown_new (grown_trans (grown_any ha _) hgrow) (Nat.le_refl _)
    rcases hown.2 with ⟨hv, _⟩ | ⟨g, cp, cur', rfl, hgb, _⟩
    · exact absurd (hnil.1 hv).1 (by simp)
    · exact h g cp w1 hg1 hgb hown
/-- 'append(p, api.Put{..})': a pair more. -/
theorem wpList_append_pair {w2 : World} {base : Nat} {l : List (Nat × Nat)} {v : Value} (hown : OwnP w2 base v l) (hn : l.length ≤ 1000000) (hbase : base ≤ w2.heap.size) (y z : Nat)
    {ops : Array Oper} {rest : List Oper} {o : Oper} {a : Act} {Q : Exit → Act → World → Prop} (hgd : o.guard = none) (s x : Operand)
    (ho : o.op = .call { callee := .builtin .append, args := #[s, x], argTypes := #[22, 22] })
    (hs : a.eval s = v) (hx : a.eval x = .slice (some ⟨w2.heap.size, 0, none⟩) 1 1)
    (h : ∀ g cp w', OwnP w' base (.slice (some ⟨g, 0, none⟩) (l.length + 1) cp) (l ++ [(y, z)]) → w2.grownBy w' v.ownBlock → (v.ownBlock = some g ∨ g = w2.heap.size + 1) → wpList Try.prog ops Q rest (a.put o.dst (.slice (some ⟨g, 0, none⟩) (l.length + 1) cp)) w') :
    wpList Try.prog ops Q (o :: rest) a (w2.alloc (.cells #[.int .u64 y, .int .u64 z] 67)) := by
  obtain ⟨i0, hi, hz0, hz1, hz2⟩ := info_parts info_put
  refine wpList_append_own_at _ hgd s x 22 ho base 67 i0 (.agg #[.int .u64 0, .int .u64 0]) 2 16 Try.underlying22 hi hz0 hz1 hz2 rfl (by decide) v l.length (cellsP l) hs (World.ownsRow.alloc hown _) ⟨w2.heap.size, 0, none⟩ 1 1 [.int .u64 y, .int .u64 z] hx rfl (cells_two_new _ _ _ _) (by simp [Value.oneCell']) (by unfold maxLen; omega) (by omega) (by rw [World.size_alloc]; omega) fun v' w' h1 h2 _ h4 => ?_
  obtain ⟨g, cp, rfl⟩ := ownsRow_succ h1
  refine h g cp w' ?_ (grown_trans (World.grownBy_alloc _ _ _) h2) ?_
  · unfold OwnP
    rw [cellsP_app, List.length_append]
    exact h1
  · rw [World.size_alloc] at h4
    rcases h4 with h4 | h4
    · exact .inl h4.symm
    · right; injection h4
theorem cellsP_set (l : List (Nat × Nat)) (i y z : Nat) : ((cellsP l).set (i * 2) (.int .u64 (y : Nat))).set (i * 2 + 1) (.int .u64 (z : Nat)) = cellsP (l.set i (y, z)) := by
  induction l generalizing i with
  | nil => rfl
  | cons p r ih =>
    have e : ∀ (q : Nat × Nat) (r : List (Nat × Nat)), cellsP (q :: r) = .int .u64 (q.1 : Nat) :: .int .u64 (q.2 : Nat) :: cellsP r := fun _ _ => rfl
    rcases i with _ | i
    · rw [e, List.set_cons_zero]; rfl
    · rw [show (i + 1) * 2 = i * 2 + 1 + 1 by omega, e]
      simp only [List.set_cons_succ]
      rw [ih i]
      rfl
/-- 'p[i] = api.Put{..}' into a row of the call's own. -/
theorem OwnP.stored {w : World} {base g c : Nat} {l : List (Nat × Nat)} (h : OwnP w base (.slice (some ⟨g, 0, none⟩) l.length c) l) (i y z : Nat) :
    OwnP ((w.setCell ⟨g, i * 2, none⟩ (.int .u64 (y : Nat))).setCell ⟨g, i * 2 + 1, none⟩ (.int .u64 (z : Nat))) base (.slice (some ⟨g, 0, none⟩) l.length c) (l.set i (y, z)) ∧
    w.grownBy ((w.setCell ⟨g, i * 2, none⟩ (.int .u64 (y : Nat))).setCell ⟨g, i * 2 + 1, none⟩ (.int .u64 (z : Nat))) (some g) := by
  have h1 := World.ownsRow.stored h (i * 2) (.int .u64 (y : Nat))
  have h2 := World.ownsRow.stored h1.1 (i * 2 + 1) (.int .u64 (z : Nat))
  refine ⟨?_, grown_trans h1.2 h2.2⟩
  unfold OwnP
  rw [List.length_set, ← cellsP_set]
  exact h2.1
theorem txStore_len (ws : List Nat) (l : List (Nat × Nat)) (off v : Nat) : (txStore ws l off v).length ≤ l.length + 1 := by
  unfold txStore
  split
  · rw [txSet_len]; split <;> omega
  · omega
set_option maxHeartbeats 1000000 in
theorem rtxstore_no {w : World} {base : Nat} {wv pv : Value} {ws : List Nat} {l : List (Nat × Nat)} (h : RTx w base wv pv ws l) (hm : ws.length ≤ 131072) (off v : Nat) (ho : off < 18446744073709551616) (hno : ¬ stands ws off) :
    Calls Try.prog 27 #[.agg #[wv, pv], .int .u64 off, .int .u64 v] w fun e w' => e = .returned (.agg #[wv, pv]) ∧ w.grownBy w' none := by
  have e1 : errW ws off = 1 := by unfold errW; rw [if_neg hno]
  have hc := fun w' (hg : w.grownBy w' none) => rload_any (h.words.later hg) hm off ho
  rw [e1] at hc
  obtain ⟨wa, wc, wg, hwv, _, _⟩ := OwnW.addr h.words
  subst hwv
  obtain ⟨pa, pc, pg, hpv, hpa, hpc⟩ := h.puts.addr
  subst hpv
  clear e1 h hpa hpc
  go_enter Try.func27, Try.ntmps27
  have hg0 : w.grownBy ((w.alloc (.cells #[.slice wa ws.length wc, .slice pa l.length pc] 27)).alloc (.cells #[.slice none 0 0, .slice none 0 0] 27)) none := grown_trans (World.grownBy_alloc _ _ _) (World.grownBy_alloc _ _ _)
  go_wp2_with (go_at_call 48; refine (hc _ hg0).mono ?_; rintro e w1 ⟨rfl, rfl⟩)
  refine bodyPost_ret (v := .agg #[.slice wa ws.length wc, .slice pa l.length pc]) (by simp [results, Try.results27, go_sem]) rfl ⟨rfl, ?_⟩
  exact grown_trans (World.grownBy_alloc _ _ _) (World.grownBy_alloc _ _ _)
/-- What Store tells: a value of its own. -/
def RStored (w : World) (base : Nat) (wv : Value) (ws : List Nat) (l : List (Nat × Nat)) (e : Ending) (w' : World) : Prop := ∃ pv, e = .returned (.agg #[wv, pv]) ∧ RTx w' base wv pv ws l ∧ w.grownBy w' none
theorem rstored_end {w W0 w2 w3 : World} {base g g' b6 n cp : Nat} {wv : Value} {ws : List Nat} {l : List (Nat × Nat)} (hg0 : w.grownBy W0 none) (hb6 : w.heap.size ≤ b6) (hg : W0.heap.size ≤ g) (hne : b6 < W0.heap.size) (hbase : base ≤ w.heap.size) (hw : OwnW w base wv ws)
    (hg2 : W0.grownBy w2 none) (hg3 : w2.grownBy w3 (some g')) (hg' : W0.heap.size ≤ g') (hp : OwnP w3 W0.heap.size (.slice (some ⟨g, 0, none⟩) n cp) l) (u v : Value) :
    RTx ((w3.setCell ⟨b6, 0, none⟩ u).setCell ⟨b6, 1, none⟩ v) base wv (.slice (some ⟨g, 0, none⟩) n cp) ws l ∧ w.grownBy ((w3.setCell ⟨b6, 0, none⟩ u).setCell ⟨b6, 1, none⟩ v) none := by
  have hs : w3.grownBy ((w3.setCell ⟨b6, 0, none⟩ u).setCell ⟨b6, 1, none⟩ v) (some b6) := grown_trans (grown_set _ _ _ _) (grown_set _ _ _ _)
  have h3 : w.grownBy w3 none := grown_step (grown_trans hg0 hg2) hg3 (fun i hi => .inl (by injection hi with hi; have := hg0.size; omega))
  have h4 : w.grownBy ((w3.setCell ⟨b6, 0, none⟩ u).setCell ⟨b6, 1, none⟩ v) none := grown_step h3 hs (fun i hi => .inl (by injection hi with hi; omega))
  refine ⟨⟨hw.later h4, ?_⟩, h4⟩
  refine World.ownsRow.mono (World.ownsRow.kept hp hs (.inr ?_)) (Nat.le_trans hbase hg0.size)
  intro e
  simp only [Value.ownBlock] at e
  injection e with e
  omega
set_option maxHeartbeats 1000000 in
theorem rtxstore_old {w : World} {base : Nat} {wv pv : Value} {ws : List Nat} {l : List (Nat × Nat)} (h : RTx w base wv pv ws l) (hbase : base ≤ w.heap.size) (hm : ws.length ≤ 131072) (hl : l.length ≤ 1000000) (off v : Nat) (ho : off < 18446744073709551616) (hs : stands ws off) (i : Nat) (hi : txAt l off = some i) :
    Calls Try.prog 27 #[.agg #[wv, pv], .int .u64 off, .int .u64 v] w (RStored w base wv ws (txStore ws l off v)) := by
  have e1 : errW ws off = 0 := by unfold errW; rw [if_pos hs]
  have hc := fun w' (hg : w.grownBy w' none) => rload_any (h.words.later hg) hm off ho
  rw [e1] at hc
  obtain ⟨hil, _, _, hset, _⟩ := txAt_some hi
  have e2 : txStore ws l off v = l.set i (off, v) := by unfold txStore; rw [if_pos hs, hset]
  rw [e2]
  obtain ⟨wa, wc, wg, hwv, _, _⟩ := OwnW.addr h.words
  subst hwv
  obtain ⟨pa, pc, pg, hpv, hpa, hpc⟩ := h.puts.addr
  subst hpv
  have hat := fun (wv : Value) (w' : World) (hg : w.grownBy w' none) => rat_any (wv := wv) (h.puts.later hg) hl off ho (i : Int) (by rw [hi])
  obtain ⟨W0, hW0⟩ : ∃ W0, (w.alloc (.cells #[.slice wa ws.length wc, .slice pa l.length pc] 27)).alloc (.cells #[.slice none 0 0, .slice none 0 0] 27) = W0 := ⟨_, rfl⟩
  have hg0 : w.grownBy W0 none := by rw [← hW0]; exact grown_trans (World.grownBy_alloc _ _ _) (World.grownBy_alloc _ _ _)
  have hb3 : W0.heap[w.heap.size]? = some (.cells #[.slice wa ws.length wc, .slice pa l.length pc] 27 (0, 0)) := by
    rw [← hW0]; exact (Below.heap_alloc _ _ _ (by simp)).trans (heap_alloc_new' w _)
  have hb6 : W0.heap[w.heap.size + 1]? = some (.cells #[.slice none 0 0, .slice none 0 0] 27 (0, 0)) := by
    rw [← hW0]
    have := heap_alloc_new' (w.alloc (.cells #[.slice wa ws.length wc, .slice pa l.length pc] 27)) (.cells #[.slice none 0 0, .slice none 0 0] 27)
    rwa [World.size_alloc] at this
  have hsz := lt_of_block hb6
  have hputs := h.puts.later hg0
  have k30 : W0.cell? ⟨w.heap.size, 0, none⟩ = some (.slice wa ws.length wc) := by simp [World.cell?, hb3]
  have k31 : (W0.alloc (.cells #[] 67)).cell? ⟨w.heap.size, 1, none⟩ = some (.slice pa l.length pc) := by
    have := (Below.heap_alloc W0 (.cells #[] 67) _ (lt_of_block hb3)).trans hb3
    simp [World.cell?, this]
  have HW := Lib.hid hW0
  have HI := Lib.hid hi
  have HB3 := Lib.hid hb3
  have HB6 := Lib.hid hb6
  clear e1 e2 hs hset hpa hpc hi hb3 hb6
  go_enter Try.func27, Try.ntmps27
  go_wp2_with (first | (go_at_call 48; clear hW0; refine (hc _ hg0).mono ?_; rintro e w1 ⟨rfl, rfl⟩) | (at_builtin; go_must (refine wpList_append_pairs hputs hl rfl _ _ rfl rfl rfl ?_); intro g cp w1 hgrow hgb hown; have hb3 := (hgrow.block _ (lt_of_block HB3.out) (by simp)).trans HB3.out; have c30 : w1.cell? ⟨w.heap.size, 0, none⟩ = some (.slice wa ws.length wc) := (by simp [World.cell?, hb3]); have c31 : w1.cell? ⟨w.heap.size, 1, none⟩ = some (.slice pa l.length pc) := (by simp [World.cell?, hb3]); clear hb3) | (go_at_call 49; refine (hat _ _ (grown_trans hg0 hgrow)).mono ?_; rintro e w2 ⟨rfl, hg2⟩; have hown2 := hown.later hg2; obtain ⟨e0, e1⟩ := cellsP_at l i hil; have q0 := (World.ownsRow.cellAt hown2 (i * 2) (by omega)).trans e0; have q1 := (World.ownsRow.cellAt hown2 (i * 2 + 1) (by omega)).trans e1; have r0 := World.ownsRow.frozenAt hown2 (i * 2); have r1 := World.ownsRow.frozenAt hown2 (i * 2 + 1); have hgg := grown_trans hgrow hg2; have hb3 := (hgg.block _ (lt_of_block HB3.out) (by simp)).trans HB3.out; have hb6 := (hgg.block _ (lt_of_block HB6.out) (by simp)).trans HB6.out; have d30 : w2.cell? ⟨w.heap.size, 0, none⟩ = some (.slice wa ws.length wc) := (by simp [World.cell?, hb3]); have d60 : w2.cell? ⟨w.heap.size + 1, 0, none⟩ = some (.slice none 0 0) := (by simp [World.cell?, hb6]); have d61 : w2.cell? ⟨w.heap.size + 1, 1, none⟩ = some (.slice none 0 0) := (by simp [World.cell?, hb6]); have f60 : w2.frozen? ⟨w.heap.size + 1, 0, none⟩ = false := (by simp [World.frozen?, hb6]); have f61 : w2.frozen? ⟨w.heap.size + 1, 1, none⟩ = false := (by simp [World.frozen?, hb6]); have n3 : ¬ g = w.heap.size := (by omega); have n3' : ¬ w.heap.size = g := (by omega); have n6 : ¬ g = w.heap.size + 1 := (by omega); have n6' : ¬ w.heap.size + 1 = g := (by omega); have HO := Lib.hid hown2; clear hb3 hb6 e0 e1 hown2 c30 c31 k30 k31))
  obtain ⟨hp3, hg3⟩ := OwnP.stored HO.out i off v
  obtain ⟨q1, q2⟩ := rstored_end hg0 (by omega : w.heap.size ≤ w.heap.size + 1) hgb hsz hbase h.words hgg hg3 hgb hp3 (.slice wa ws.length wc) (.slice (some ⟨g, 0, none⟩) l.length cp)
  refine bodyPost_ret (v := .agg #[.slice wa ws.length wc, .slice (some ⟨g, 0, none⟩) l.length cp]) (by simp [results, Try.results27, go_sem, d60, d61, n6, n6']) rfl ⟨_, rfl, q1, q2⟩
set_option maxHeartbeats 1000000 in
theorem rtxstore_new {w : World} {base : Nat} {wv pv : Value} {ws : List Nat} {l : List (Nat × Nat)} (h : RTx w base wv pv ws l) (hbase : base ≤ w.heap.size) (hm : ws.length ≤ 131072) (hl : l.length ≤ 1000000) (off v : Nat) (ho : off < 18446744073709551616) (hs : stands ws off) (hi : txAt l off = none) :
    Calls Try.prog 27 #[.agg #[wv, pv], .int .u64 off, .int .u64 v] w (RStored w base wv ws (txStore ws l off v)) := by
  have e1 : errW ws off = 0 := by unfold errW; rw [if_pos hs]
  have hc := fun w' (hg : w.grownBy w' none) => rload_any (h.words.later hg) hm off ho
  rw [e1] at hc
  have e2 : txStore ws l off v = l ++ [(off, v)] := by unfold txStore; rw [if_pos hs, txSet_new v (txAt_none.1 hi)]
  rw [e2]
  obtain ⟨wa, wc, wg, hwv, _, _⟩ := OwnW.addr h.words
  subst hwv
  obtain ⟨pa, pc, pg, hpv, hpa, hpc⟩ := h.puts.addr
  subst hpv
  have hat := fun (wv : Value) (w' : World) (hg : w.grownBy w' none) => rat_any (wv := wv) (h.puts.later hg) hl off ho (-1) (by rw [hi])
  obtain ⟨W0, hW0⟩ : ∃ W0, (w.alloc (.cells #[.slice wa ws.length wc, .slice pa l.length pc] 27)).alloc (.cells #[.slice none 0 0, .slice none 0 0] 27) = W0 := ⟨_, rfl⟩
  have hg0 : w.grownBy W0 none := by rw [← hW0]; exact grown_trans (World.grownBy_alloc _ _ _) (World.grownBy_alloc _ _ _)
  have hb3 : W0.heap[w.heap.size]? = some (.cells #[.slice wa ws.length wc, .slice pa l.length pc] 27 (0, 0)) := by
    rw [← hW0]; exact (Below.heap_alloc _ _ _ (by simp)).trans (heap_alloc_new' w _)
  have hb6 : W0.heap[w.heap.size + 1]? = some (.cells #[.slice none 0 0, .slice none 0 0] 27 (0, 0)) := by
    rw [← hW0]
    have := heap_alloc_new' (w.alloc (.cells #[.slice wa ws.length wc, .slice pa l.length pc] 27)) (.cells #[.slice none 0 0, .slice none 0 0] 27)
    rwa [World.size_alloc] at this
  have hsz := lt_of_block hb6
  have hputs := h.puts.later hg0
  have k30 : W0.cell? ⟨w.heap.size, 0, none⟩ = some (.slice wa ws.length wc) := by simp [World.cell?, hb3]
  have k31 : (W0.alloc (.cells #[] 67)).cell? ⟨w.heap.size, 1, none⟩ = some (.slice pa l.length pc) := by
    have := (Below.heap_alloc W0 (.cells #[] 67) _ (lt_of_block hb3)).trans hb3
    simp [World.cell?, this]
  have HI := Lib.hid hi
  have HB3 := Lib.hid hb3
  have HB6 := Lib.hid hb6
  clear e1 e2 hs hpa hpc hi hb3 hb6
  go_enter Try.func27, Try.ntmps27
  go_wp2_with (first | (go_at_call 48; clear hW0; refine (hc _ hg0).mono ?_; rintro e w1 ⟨rfl, rfl⟩) | (at_builtin; refine wpList_append_pairs hputs hl rfl _ _ rfl rfl rfl ?_; intro g cp w1 hgrow hgb hown; have hb3 := (hgrow.block _ (lt_of_block HB3.out) (by simp)).trans HB3.out; have c30 : w1.cell? ⟨w.heap.size, 0, none⟩ = some (.slice wa ws.length wc) := (by simp [World.cell?, hb3]); have c31 : w1.cell? ⟨w.heap.size, 1, none⟩ = some (.slice pa l.length pc) := (by simp [World.cell?, hb3]); clear hb3) | (go_at_call 49; refine (hat _ _ (grown_trans hg0 hgrow)).mono ?_; rintro e w2 ⟨rfl, hg2⟩; have hown2 := hown.later hg2; have hgg := grown_trans hgrow hg2) | (at_builtin; go_must (refine wpList_append_pair hown2 hl hgg.size off v rfl _ _ rfl rfl rfl ?_); intro g3 cp3 w3 hown3 hg3 hloc; have hn6 : some g ≠ some (w.heap.size + 1) := (by intro e; injection e; omega); have hn3 : some g ≠ some (w.heap.size) := (by intro e; injection e; omega); have hb3 := (hg3.block _ (lt_of_block ((hgg.block _ (lt_of_block HB3.out) (by simp)).trans HB3.out)) hn3.symm).trans ((hgg.block _ (lt_of_block HB3.out) (by simp)).trans HB3.out); have hb6 := (hg3.block _ (lt_of_block ((hgg.block _ (lt_of_block HB6.out) (by simp)).trans HB6.out)) hn6.symm).trans ((hgg.block _ (lt_of_block HB6.out) (by simp)).trans HB6.out); have d30 : w3.cell? ⟨w.heap.size, 0, none⟩ = some (.slice wa ws.length wc) := (by simp [World.cell?, hb3]); have d60 : w3.cell? ⟨w.heap.size + 1, 0, none⟩ = some (.slice none 0 0) := (by simp [World.cell?, hb6]); have d61 : w3.cell? ⟨w.heap.size + 1, 1, none⟩ = some (.slice none 0 0) := (by simp [World.cell?, hb6]); have f60 : w3.frozen? ⟨w.heap.size + 1, 0, none⟩ = false := (by simp [World.frozen?, hb6]); have f61 : w3.frozen? ⟨w.heap.size + 1, 1, none⟩ = false := (by simp [World.frozen?, hb6]); clear hb3 hb6 hn3 hn6))
  have hgb3 := (row_block hown3 (g := g3) rfl).1
  have n6 : ¬ g3 = w.heap.size + 1 := by omega
  have n6' : ¬ w.heap.size + 1 = g3 := by omega
  have hp3 : OwnP w3 W0.heap.size (.slice (some ⟨g3, 0, none⟩) (l.length + 1) cp3) (l ++ [(off, v)]) := hown3
  obtain ⟨q1, q2⟩ := rstored_end hg0 (by omega : w.heap.size ≤ w.heap.size + 1) hgb3 hsz hbase h.words hgg hg3 hgb hp3 (.slice wa ws.length wc) (.slice (some ⟨g3, 0, none⟩) (l.length + 1) cp3)
  refine bodyPost_ret (v := .agg #[.slice wa ws.length wc, .slice (some ⟨g3, 0, none⟩) (l.length + 1) cp3]) (by simp [results, Try.results27, go_sem, d60, d61]) rfl ⟨_, rfl, q1, q2⟩
theorem rtxstore_any {w : World} {base : Nat} {wv pv : Value} {ws : List Nat} {l : List (Nat × Nat)} (h : RTx w base wv pv ws l) (hbase : base ≤ w.heap.size) (hm : ws.length ≤ 131072) (hl : l.length ≤ 1000000) (off v : Nat) (ho : off < 18446744073709551616) :
    Calls Try.prog 27 #[.agg #[wv, pv], .int .u64 off, .int .u64 v] w (RStored w base wv ws (txStore ws l off v)) := by
  by_cases hs : stands ws off
  · rcases e : txAt l off with _ | i
    · exact rtxstore_new h hbase hm hl off v ho hs e
    · exact rtxstore_old h hbase hm hl off v ho hs i e
  · refine (rtxstore_no h hm off v ho hs).mono ?_
    rintro e w' ⟨rfl, hg⟩
    refine ⟨pv, rfl, ?_, hg⟩
    have e2 : txStore ws l off v = l := by unfold txStore; rw [if_neg hs]
    rw [e2]
    exact h.later hg
end Go.Proofs.Ytkpopaadkfgjaaa
