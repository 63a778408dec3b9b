/-
  The plain answer of layer 8: All; and Ints, at two lists that are the same.
  Conditions: the words, and the pairs, are rows of the call's own, or nil.
-/
import Derived.Test.YtndoedcaoklfgaaCliC
import Derived.Test.YtndoedcaoklfgaaSegW
import Derived.Maps.AppendAt
namespace Go.Proofs.Ytndoedcaoklfgaa
open Go.RowKit
set_option linter.unusedVariables false
set_option linter.unusedSimpArgs false
set_option maxRecDepth 100000

theorem wpList_append_int {w2 : World} {ops : Array Oper} {rest : List Oper} {o : Oper} {a : Act} {Q : Exit → Act → World → Prop} (hgd : o.guard = none) (s x : Operand)
    (ho : o.op = .call { callee := .builtin .append, args := #[s, x], argTypes := #[44, 44] })
    (base : Nat) (v : Value) (xs : List Nat) (hs : a.eval s = v) (hown : OwnI w2 base v xs) (y : Nat)
    (hx : a.eval x = .slice (some ⟨w2.heap.size, 0, none⟩) 1 1) (hn : xs.length ≤ 10000000) (hbase : base ≤ w2.heap.size)
    (h : ∀ v' w', OwnI w' base v' (xs ++ [y]) → w2.grownBy w' v.ownBlock → wpList Try.prog ops Q rest (a.put o.dst v') w') :
    wpList Try.prog ops Q (o :: rest) a (w2.alloc (.cells #[.int .i64 (y : Nat)] 3)) := by
  obtain ⟨i0, hi, hz0, hz1, hz2⟩ := info_parts info_int
  exact wpList_append_own_at _ hgd s x 44 ho base 3 i0 (.int .i64 0) 1 8 Try.underlying44 hi hz0 hz1 hz2 rfl (by decide) v xs.length (cellsI xs) hs (World.ownsRow.alloc hown _) ⟨w2.heap.size, 0, none⟩ 1 1 [.int .i64 (y : Nat)] hx rfl (cell_one_new _ _ _) (by simp [Value.oneCell']) (by unfold maxLen; omega) (by omega) (by rw [World.size_alloc]; omega) fun v' w' h1 h2 _ h4 => h v' w' (OwnI.snoc h1) (grown_trans (grown_any (World.grownBy_alloc _ _ none) _) h2)
section
variable {w : World} {base : Nat} {wv pv : Value} {ws : List Nat} {l : List (Nat × Nat)}
set_option maxHeartbeats 2000000 in
theorem rcall_any (h : RTx w base wv pv ws l) (hm : ws.length ≤ 131072) (hl : l.length ≤ 1000000) (s : Nat) :
    Calls Try.prog 21 #[.agg #[wv, pv], .int .u64 s] w fun e w' => ∃ v, e = .returned v ∧ OwnI w' w.heap.size v (ofState (fun x => cGet ws l x 0) s) ∧ w.grownBy w' none := by
  obtain ⟨st, hst⟩ : ∃ st : Nat → Nat, (fun x : Nat => cGet ws l x 0) = st := ⟨_, rfl⟩
  have hget : ∀ (w1 : World) (hg : w.grownBy w1 none) (k : Nat), Calls Try.prog 15 #[.agg #[wv, pv], .int .i64 k, .int .u64 0] w1 fun e w' => e = .returned (.int .u64 (st k : Nat)) ∧ w1.grownBy w' none := fun w1 hg k => by
    rw [← hst]
    exact rcget_any (h.later hg) hm hl k 0
  rw [hst]
  clear hst hm hl
  obtain ⟨wa, wc, wg, hwv, _, _⟩ := OwnW.addr h.words
  obtain ⟨pa, pc, pg, hpv, _, _⟩ := h.puts.addr
  subst hwv hpv
  clear h
  have hg0 : w.grownBy (w.alloc (.cells #[.slice wa ws.length wc, .slice pa l.length pc] 29)) none := World.grownBy_alloc _ _ _
  have hsz0 : (w.alloc (.cells #[.slice wa ws.length wc, .slice pa l.length pc] 29)).heap.size = w.heap.size + 1 := by simp
  obtain ⟨W0, hW0⟩ : ∃ W0, w.alloc (.cells #[.slice wa ws.length wc, .slice pa l.length pc] 29) = W0 := ⟨_, rfl⟩
  have hbox : ∀ w', W0.grownBy w' none → w'.heap[w.heap.size]? = some (.cells #[.slice wa ws.length wc, .slice pa l.length pc] 29 (0, 0)) := fun w' hg => tx_one (hW0 ▸ hg)
  have HB := Lib.hid hbox
  rw [hW0] at hg0 hsz0
  go_enter Try.func21, Try.ntmps21
  go_wp2
  clear hW0 hbox
  go_loopw [5, 6] (fun v i wr => ∃ k : Nat, k ≤ 8 ∧ i = .int .i64 k ∧ OwnI wr W0.heap.size v ((List.range k).filter fun x => decide (st x = s)) ∧ W0.grownBy wr none) (fun _ i _ => 8 - (intOf i).toNat)
  case atStart => exact ⟨0, Nat.zero_le _, rfl, World.ownsRow_nil _ _ _ _, grown_refl _ _⟩
  case round =>
    obtain ⟨k, hk, rfl, hown, hgr⟩ := hrel
    by_cases h1 : k < 8
    · have hgt := hget wr (grown_trans hg0 hgr) k
      obtain ⟨c1, c2, _, _⟩ := tx_cells (HB.out wr hgr)
      obtain ⟨x, hx⟩ : ∃ x, st k = x := ⟨_, rfl⟩
      rw [hx] at hgt
      have hfl : ((List.range k).filter fun x => decide (st x = s)).length ≤ 8 := Nat.le_trans (List.length_filter_le _ _) (by simp; omega)
      by_cases hxs : x = s
      · subst hxs
        have hfil : (List.range (k + 1)).filter (fun y => decide (st y = x)) = (List.range k).filter (fun y => decide (st y = x)) ++ [k] := by rw [List.range_succ, List.filter_append]; simp [hx]
        have HF := Lib.hid hfil
        clear hfil hx
        go_wp2_with (first | (go_at_call 15; (with_reducible refine hgt.mono ?_); rintro e w1 ⟨rfl, hg1⟩; have hown1 := hown.later hg1; have hgr1 := grown_trans hgr hg1; have hsz1 := hgr1.size) | (at_builtin; go_must (refine wpList_append_int rfl _ _ rfl W0.heap.size _ _ rfl hown1 k rfl (by omega) hsz1 ?_); intro v' w3 hown3 hg3))
        go_roundw
        case rel =>
          refine ⟨k + 1, by omega, by go_num, by rw [HF.out]; exact hown3, grown_step hgr1 hg3 (fun i hi => .inl (own_int hown1 hi).1)⟩
        case measure => simp [intOf]; omega
      · have hxs' : ¬ (x : Int) = (s : Int) := by omega
        have hfil : (List.range (k + 1)).filter (fun y => decide (st y = s)) = (List.range k).filter (fun y => decide (st y = s)) := by rw [List.range_succ, List.filter_append]; simp [hx, hxs]
        have HF := Lib.hid hfil
        clear hfil hx
        go_wp2_with (first | (go_at_call 15; (with_reducible refine hgt.mono ?_); rintro e w1 ⟨rfl, hg1⟩; have hown1 := hown.later hg1; have hgr1 := grown_trans hgr hg1; have hsz1 := hgr1.size))
        go_roundw
        case rel => exact ⟨k + 1, by omega, by go_num, by rw [HF.out]; exact hown1, hgr1⟩
        case measure => simp [intOf]; omega
    · obtain rfl : k = 8 := by omega
      replace hown : OwnI wr w.heap.size _ (ofState st s) := OwnI.mono hown (by omega)
      obtain ⟨va, vn, vc, hvv⟩ := iv_form hown
      subst hvv
      go_wp2
      go_ret
      exact ⟨_, rfl, hown, grown_trans hg0 hgr⟩
end
set_option maxHeartbeats 400000 in
theorem ints_same {w : World} {base base' : Nat} {p q : Value} {l : List Nat} (hp : OwnI w base p l) (hq : OwnI w base' q l) (hl : l.length ≤ 1000000) :
    Calls Try.prog 19 #[p, q] w fun e w' => e = .returned (.bool true) ∧ w.grownBy w' none := by
  obtain ⟨pa, pc, pg, hpv, hpa, hpc⟩ := OwnI.addr hp
  obtain ⟨qa, qc, qg, hqv, hqa, hqc⟩ := OwnI.addr hq
  have hpc' := fun w' (hg : w.grownBy w' none) => hpc w' (hp.later hg)
  have hqc' := fun w' (hg : w.grownBy w' none) => hqc w' (hq.later hg)
  clear hpc hqc hp hq
  subst hpv
  subst hqv
  have HPA := Lib.hid hpa
  have HQA := Lib.hid hqa
  clear hpa hqa
  have e0 : ((l.length : Int) != (l.length : Int)) = false := by simp
  go_enter Try.func19, Try.ntmps19
  go_wp2
  go_loopw [5] (fun i wr => ∃ k : Nat, k ≤ l.length ∧ i = .int .i64 k ∧ w.grownBy wr none) (fun i _ => l.length - (intOf i).toNat)
  case atStart => exact ⟨0, Nat.zero_le _, rfl, grown_refl _ _⟩
  case round =>
    obtain ⟨k, hk, rfl, R⟩ := hrel
    rcases Nat.lt_or_ge k l.length with h1 | h1
    · have c1 := hpc' _ R k h1
      have c2 := hqc' _ R k h1
      have ea := HPA.out (by omega)
      have eb := HQA.out (by omega)
      subst ea
      subst eb
      generalize l.getD k 0 = x at *
      have h3' : (((x : Nat) : Int) != ((x : Nat) : Int)) = false := by simp
      go_wp2
      go_quiet (fail)
      go_wp2
      go_roundw
      case rel => exact ⟨k + 1, by omega, by go_num, grown_trans R (grown_drewN _ _)⟩
      case measure => simp [intOf]; omega
    · go_wp2
      go_ret
      exact ⟨rfl, R⟩
end Go.Proofs.Ytndoedcaoklfgaa
