/-
  Texts of one layer, one behind the other: memory, contracts of the functions, and what follows of them.
  Conditions: as each theorem says.
-/
import Derived.Test.YtkkkgikmeiocaaaLTxa
import Derived.Laws.StructEq
import Derived.Deep.AppendLies
import Derived.Laws.AppendOwnNone
import Derived.StillTailTactics
import Derived.Deep.RegionHeld3
import Derived.Deep.QuietTactic
import Derived.BigQuiet
import Derived.RangeFuncCalls
import Derived.TacticsInMore
import Derived.OrdersIn
import Derived.Test.YtkkkgikmeiocaaaLSea
import Derived.Deep.LoopGhost
set_option linter.unusedVariables false
set_option linter.unusedSimpArgs false
namespace Go.Proofs.Ytkkkgikmeiocaaa
open Go.RowKit
theorem rload_any {w : World} {base : Nat} {v : Value} {ws : List Nat} (h : OwnW w base v ws) (hm : ws.length ≤ 131072) (off : Nat) (ho : off < 18446744073709551616) :
    Calls Try.prog 60 #[v, .int .u64 off] w fun e w' => e = .returned (.tuple #[.int .u64 (getW ws off : Nat), .int .i64 (errW ws off : Nat)]) ∧ w = w' := by
  have hc := rin_any h hm off ho
  by_cases hs : stands ws off
  · rw [decide_eq_true hs] at hc
    have hq : off / 8 < ws.length := by have := hs.1; have := hs.2; omega
    obtain ⟨g0, c0, rfl, hg0, hg0'⟩ := World.ownsRow.form h (by omega)
    have hcell := OwnW.at_ h (off / 8) hq
    have e1 : getW ws off = ws.getD (off / 8) 0 := by unfold getW; rw [if_pos hs]
    have e2 : errW ws off = 0 := by unfold errW; rw [if_pos hs]
    rw [← e1] at hcell
    rw [e2]
    have hdiv : ((off : Int) / 8).toNat = off / 8 := by omega
    have hlt : (off : Int) / 8 < ws.length := by omega
    have HD := Lib.hid hdiv
    clear e1 e2 hs h hdiv
    go_enter Try.func60, Try.ntmps60
    go_wp2_with (go_at_call 71; refine hc.mono ?_; rintro e w' ⟨rfl, rfl⟩)
    go_ret2
    exact ⟨rfl, rfl⟩
  · rw [decide_eq_false hs] at hc
    have e1 : getW ws off = 0 := by unfold getW; rw [if_neg hs]
    have e2 : errW ws off = 1 := by unfold errW; rw [if_neg hs]
    rw [e1, e2]
    clear e1 e2 hs
    go_enter Try.func60, Try.ntmps60
    go_wp2_with (go_at_call 71; refine hc.mono ?_; rintro e w' ⟨rfl, rfl⟩)
    go_ret2
    exact ⟨rfl, rfl⟩
def txAt : List (Nat × Nat) → Nat → Option Nat
  | [], _ => none
  | p :: r, off => if p.1 = off then some 0 else (txAt r off).map (· + 1)
theorem txAt_none {l : List (Nat × Nat)} {off : Nat} : txAt l off = none ↔ txGet l off = none := by
  induction l with
  | nil => simp [txAt, txGet]
  | cons p r ih =>
    unfold txAt txGet
    by_cases e : p.1 = off
    · rw [if_pos e, if_pos e]; simp
    · rw [if_neg e, if_neg e, ← ih]; simp
theorem txX_cons (p : Nat × Nat) (r : List (Nat × Nat)) (k : Nat) : txX (p :: r) (k + 1) = txX r k := by simp [txX]
theorem txV_cons (p : Nat × Nat) (r : List (Nat × Nat)) (k : Nat) : txV (p :: r) (k + 1) = txV r k := by simp [txV]
theorem txAt_some {l : List (Nat × Nat)} {off i : Nat} (h : txAt l off = some i) : i < l.length ∧ txX l i = off ∧ txGet l off = some (txV l i) ∧ (∀ v, txSet l off v = l.set i (off, v)) ∧ ∀ j, j < i → txX l j ≠ off := by
  induction l generalizing i with
  | nil => cases h
  | cons p r ih =>
    unfold txAt at h
    by_cases e : p.1 = off
    · rw [if_pos e] at h
      injection h with h
      subst h
      refine ⟨by simp, by simpa [txX] using e, by unfold txGet; rw [if_pos e]; rfl, fun v => by unfold txSet; rw [if_pos e]; rfl, fun j hj => absurd hj (Nat.not_lt_zero _)⟩
    · rw [if_neg e] at h
      rcases e2 : txAt r off with _ | k
      · rw [e2] at h; cases h
      · rw [e2] at h
        injection h with h
        simp only at h
        subst h
        obtain ⟨h1, h2, h3, h4, h5⟩ := ih e2
        refine ⟨by simpa using h1, by rw [txX_cons]; exact h2, by unfold txGet; rw [if_neg e, h3, txV_cons], fun v => by unfold txSet; rw [if_neg e, h4]; rfl, fun j hj => ?_⟩
        rcases j with _ | j
        · simpa [txX] using e
        · rw [txX_cons]; exact h5 j (by omega)
theorem txAt_nobody {l : List (Nat × Nat)} {off : Nat} (h : txAt l off = none) : ∀ j, j < l.length → txX l j ≠ off := by
  induction l with
  | nil => intro j hj; exact absurd hj (Nat.not_lt_zero _)
  | cons p r ih =>
    unfold txAt at h
    by_cases e : p.1 = off
    · rw [if_pos e] at h; cases h
    · rw [if_neg e] at h
      have h2 : txAt r off = none := by
        rcases e2 : txAt r off with _ | k
        · rfl
        · rw [e2] at h; cases h
      intro j hj
      rcases j with _ | j
      · simpa [txX] using e
      · rw [txX_cons]; exact ih h2 j (by simpa using hj)
theorem cellsP_len (l : List (Nat × Nat)) : (cellsP l).length = l.length * 2 := by
  induction l with
  | nil => rfl
  | cons p r ih =>
    unfold cellsP at ih ⊢
    rw [List.flatMap_cons, List.length_append, ih, List.length_cons]
    simp only [List.length_cons, List.length_nil]
    omega
theorem cellsP_app (a b : List (Nat × Nat)) : cellsP (a ++ b) = cellsP a ++ cellsP b := by simp [cellsP, List.flatMap_append]
theorem cellsP_one (l : List (Nat × Nat)) : ∀ u ∈ cellsP l, u.oneCell' = true := by
  intro u hu
  obtain ⟨p, _, h⟩ := List.mem_flatMap.1 hu
  simp at h
  rcases h with rfl | rfl <;> rfl
theorem cellsP_at (l : List (Nat × Nat)) (k : Nat) (h : k < l.length) : (cellsP l)[k * 2]? = some (.int .u64 (txX l k : Nat)) ∧ (cellsP l)[k * 2 + 1]? = some (.int .u64 (txV l k : Nat)) := by
  induction l generalizing k with
  | nil => exact absurd h (Nat.not_lt_zero _)
  | cons p r ih =>
    have e : cellsP (p :: r) = .int .u64 (p.1 : Nat) :: .int .u64 (p.2 : Nat) :: cellsP r := rfl
    rw [e]
    rcases k with _ | k
    · exact ⟨rfl, rfl⟩
    · have := ih k (by simpa using h)
      rw [show (k + 1) * 2 = k * 2 + 1 + 1 by omega, List.getElem?_cons_succ, List.getElem?_cons_succ, List.getElem?_cons_succ, List.getElem?_cons_succ, txX_cons, txV_cons]
      exact this
theorem OwnP.later {w w' : World} {base : Nat} {v : Value} {l : List (Nat × Nat)} (h : OwnP w base v l) (hg : w.grownBy w' none) : OwnP w' base v l := own_kept h hg
theorem OwnP.addr {w : World} {base : Nat} {v : Value} {l : List (Nat × Nat)} (h : OwnP w base v l) : ∃ a c g, v = .slice a l.length c ∧ (0 < l.length → a = some ⟨g, 0, none⟩) ∧
    ∀ w', OwnP w' base v l → ∀ k, k < l.length → w'.cell? ⟨g, k * 2, none⟩ = some (.int .u64 (txX l k : Nat)) ∧ w'.cell? ⟨g, k * 2 + 1, none⟩ = some (.int .u64 (txV l k : Nat)) := by
  rcases h.2 with ⟨h1, h2⟩ | ⟨g, cap, cur, hv, _⟩
  · exact ⟨none, 0, 0, by rw [h1, h2], fun h => by omega, fun w' _ j hj => by omega⟩
  · refine ⟨_, cap, g, hv, fun _ => rfl, fun w' h' k hk => ?_⟩
    rw [hv] at h'
    have hl := cellsP_len l
    have c0 := World.ownsRow.cellAt h' (k * 2) (by omega)
    have c1 := World.ownsRow.cellAt h' (k * 2 + 1) (by omega)
    obtain ⟨e0, e1⟩ := cellsP_at l k hk
    exact ⟨c0.trans e0, c1.trans e1⟩
theorem txAt_is {l : List (Nat × Nat)} {off k : Nat} (h : k < l.length) (hx : txX l k = off) (hj : ∀ j, j < k → txX l j ≠ off) : txAt l off = some k := by
  rcases e : txAt l off with _ | i
  · exact absurd hx (txAt_nobody e k h)
  · obtain ⟨h1, h2, _, _, h5⟩ := txAt_some e
    rcases Nat.lt_trichotomy i k with hlt | heq | hgt
    · exact absurd h2 (hj i hlt)
    · rw [heq]
    · exact absurd hx (h5 k hgt)
theorem txAt_not {l : List (Nat × Nat)} {off : Nat} (hj : ∀ j, j < l.length → txX l j ≠ off) : txAt l off = none := by
  rcases e : txAt l off with _ | i
  · rfl
  · obtain ⟨h1, h2, _⟩ := txAt_some e
    exact absurd h2 (hj i h1)
set_option maxHeartbeats 400000 in
theorem rat_any {w : World} {base : Nat} {wv pv : Value} {l : List (Nat × Nat)} (h : OwnP w base pv l) (hl : l.length ≤ 1000000) (off : Nat) (ho : off < 18446744073709551616) (r : Int) (hr : r = match txAt l off with | some i => (i : Int) | none => -1) :
    Calls Try.prog 44 #[.agg #[wv, pv], .int .u64 off] w fun e w' => e = .returned (.int .i64 r) ∧ w.grownBy w' none := by
  obtain ⟨pa, pc, pg, hpv, hpa, hpc⟩ := h.addr
  have hpc' := fun w' (hg : w.grownBy w' none) => hpc w' (h.later hg)
  clear hpc h
  subst hpv
  have HPA := Lib.hid hpa
  have HR := Lib.hid hr
  clear hpa hr
  have hg0 : w.grownBy (w.alloc (.cells #[wv, .slice pa l.length pc] 28)) none := World.grownBy_alloc _ _ _
  go_enter Try.func44, Try.ntmps44
  go_wp2
  go_loop [5] (fun i => ∃ k : Nat, k ≤ l.length ∧ i = .int .i64 k ∧ Hid (∀ j, j < k → txX l j ≠ off)) (fun i => l.length - (intOf i).toNat)
  case atStart => exact ⟨0, Nat.zero_le _, rfl, Lib.hid (fun j hj => absurd hj (Nat.not_lt_zero _))⟩
  case round =>
    obtain ⟨k, hk, rfl, HJ⟩ := hrel
    rcases Nat.lt_or_ge k l.length with h1 | h1
    · obtain ⟨c1, c2⟩ := hpc' _ hg0 k h1
      have ea := HPA.out (by omega)
      subst ea
      by_cases hx : txX l k = off
      · have e1 : ((txX l k : Int) == (off : Int)) = true := by rw [beq_iff_eq]; omega
        have HX := Lib.hid hx
        clear hx
        go_wp2
        go_ret
        refine ⟨ret_int' ?_, hg0⟩
        rw [HR.out, txAt_is h1 HX.out HJ.out]
      · have e1 : ((txX l k : Int) == (off : Int)) = false := by rw [beq_eq_false_iff_ne]; omega
        have HX := Lib.hid hx
        clear hx
        go_wp2
        go_round
        case rel =>
          refine ⟨k + 1, by omega, by go_num, Lib.hid fun j hj => ?_⟩
          rcases Nat.lt_or_ge j k with h' | h'
          · exact HJ.out j h'
          · rw [show j = k by omega]; exact HX.out
        case measure => simp [intOf]; omega
    · obtain rfl : k = l.length := by omega
      go_wp2
      go_ret
      refine ⟨ret_int' ?_, hg0⟩
      rw [HR.out, txAt_not HJ.out]
structure RTx (w : World) (base : Nat) (wv pv : Value) (ws : List Nat) (l : List (Nat × Nat)) : Prop where
  words : OwnW w base wv ws
  puts : OwnP w base pv l
theorem RTx.later {w w' : World} {base : Nat} {wv pv : Value} {ws : List Nat} {l : List (Nat × Nat)} (h : RTx w base wv pv ws l) (hg : w.grownBy w' none) : RTx w' base wv pv ws l := ⟨h.words.later hg, h.puts.later hg⟩
theorem rold_any {w : World} {base : Nat} {wv pv : Value} {ws : List Nat} {l : List (Nat × Nat)} (h : RTx w base wv pv ws l) (hm : ws.length ≤ 131072) (off : Nat) (ho : off < 18446744073709551616) :
    Calls Try.prog 45 #[.agg #[wv, pv], .int .u64 off] w fun e w' => e = .returned (.int .u64 (getW ws off : Nat)) ∧ w.grownBy w' none := by
  have hg0 : w.grownBy (w.alloc (.cells #[wv, pv] 28)) none := World.grownBy_alloc _ _ _
  have hc := rload_any (h.words.later hg0) hm off ho
  go_enter Try.func45, Try.ntmps45
  go_wp2_with (go_at_call 60; refine hc.mono ?_; rintro e w' ⟨rfl, rfl⟩)
  go_ret
  exact ⟨rfl, hg0⟩
theorem rtxload_any {w : World} {base : Nat} {wv pv : Value} {ws : List Nat} {l : List (Nat × Nat)} (h : RTx w base wv pv ws l) (hm : ws.length ≤ 131072) (hl : l.length ≤ 1000000) (off : Nat) (ho : off < 18446744073709551616) :
    Calls Try.prog 26 #[.agg #[wv, pv], .int .u64 off] w fun e w' => e = .returned (.int .u64 (txSee ws l off : Nat)) ∧ w.grownBy w' none := by
  have hg0 : w.grownBy (w.alloc (.cells #[wv, pv] 28)) none := World.grownBy_alloc _ _ _
  obtain ⟨wa, wc, wg, hwv, _, _⟩ := OwnW.addr h.words
  subst hwv
  obtain ⟨pa, pc, pg, hpv, hpa, hpc⟩ := h.puts.addr
  subst hpv
  have hbox : (w.alloc (.cells #[.slice wa ws.length wc, .slice pa l.length pc] 28)).heap[w.heap.size]? = some (.cells #[.slice wa ws.length wc, .slice pa l.length pc] 28 (0, 0)) := heap_alloc_new' _ _
  rcases e : txAt l off with _ | i
  · have hat := fun w' (hg : w.grownBy w' none) => rat_any (wv := .slice wa ws.length wc) (h.puts.later hg) hl off ho (-1) (by rw [e])
    have hold := fun w' (hg : w.grownBy w' none) => rold_any (h.later hg) hm off ho
    have hsee : txSee ws l off = getW ws off := by unfold txSee; rw [txAt_none.1 e]; rfl
    rw [hsee]
    clear e hsee h hpa hpc
    go_enter Try.func26, Try.ntmps26
    go_wp2_with (first | (go_at_call 44; refine (hat _ hg0).mono ?_; rintro e w1 ⟨rfl, hg1⟩; have hb := (hg1.block _ (lt_of_block hbox) (by simp)).trans hbox; have c0 : w1.cell? ⟨w.heap.size, 0, none⟩ = some (.slice wa ws.length wc) := (by simp [World.cell?, hb]); have c1 : w1.cell? ⟨w.heap.size, 1, none⟩ = some (.slice pa l.length pc) := (by simp [World.cell?, hb]); have HB := Lib.hid hb; clear hb) | (go_at_call 45; refine (hold _ (grown_trans hg0 hg1)).mono ?_; rintro e w2 ⟨rfl, hg2⟩))
    go_ret
    exact ⟨rfl, grown_trans (grown_trans hg0 hg1) hg2⟩
  · have hat := fun w' (hg : w.grownBy w' none) => rat_any (wv := .slice wa ws.length wc) (h.puts.later hg) hl off ho (i : Int) (by rw [e])
    obtain ⟨hi, _, hget, _, _⟩ := txAt_some e
    have hsee : txSee ws l off = txV l i := by unfold txSee; rw [hget]; rfl
    rw [hsee]
    have hpc' := fun w' (hg : w.grownBy w' none) => hpc w' (h.puts.later hg) i hi
    have ea := hpa (by omega)
    subst ea
    clear e hsee h hpa hpc hget
    go_enter Try.func26, Try.ntmps26
    go_wp2_with (first | (go_at_call 44; refine (hat _ hg0).mono ?_; rintro e w1 ⟨rfl, hg1⟩; obtain ⟨k1, k2⟩ := hpc' _ (grown_trans hg0 hg1); have hb := (hg1.block _ (lt_of_block hbox) (by simp)).trans hbox; have c0 : w1.cell? ⟨w.heap.size, 0, none⟩ = some (.slice wa ws.length wc) := (by simp [World.cell?, hb]); have c1 : w1.cell? ⟨w.heap.size, 1, none⟩ = some (.slice (some ⟨pg, 0, none⟩) l.length pc) := (by simp [World.cell?, hb]); have HB := Lib.hid hb; clear hb))
    go_ret
    exact ⟨rfl, grown_trans hg0 hg1⟩
end Go.Proofs.Ytkkkgikmeiocaaa
namespace Go.Proofs.Ytkkkgikmeiocaaa
open Go.RowKit
theorem wpList_append_pairs {w : World} {base : Nat} {l : List (Nat × Nat)} {pv : Value} (hw : OwnP w base pv l) (hm : l.length ≤ 1000000)
    {ops : Array Oper} {rest : List Oper} {o : Oper} {a : Act} {Q : Exit → Act → World → Prop} (hgd : o.guard = none) (s x : Operand)
    (ho : o.op = .call { callee := .builtin .append, args := #[s, x], argTypes := #[22, 22] })
    (hs : a.eval s = .slice (some ⟨w.heap.size, 0, none⟩) 0 0) (hx : a.eval x = pv)
    (h : ∀ g cp w', w.grownBy w' none → w.heap.size ≤ g → OwnP w' w.heap.size (.slice (some ⟨g, 0, none⟩) l.length cp) l → wpList Try.prog ops Q rest (a.put o.dst (.slice (some ⟨g, 0, none⟩) l.length cp)) w') :
    wpList Try.prog ops Q (o :: rest) a (w.alloc (.cells #[] 89)) := by
  obtain ⟨i0, hi, hz0, hz1, hz2⟩ := info_parts info_put
  have hown0 : (w.alloc (.cells #[] 89)).ownsRow w.heap.size 89 2 (.slice (some ⟨w.heap.size, 0, none⟩) 0 0) 0 [] := World.ownsRow_lit (base := w.heap.size) (e := 89) (size := 2) w #[] 0 (Nat.le_refl _) (by decide) rfl
  have ha : w.grownBy (w.alloc (.cells #[] 89)) none := World.grownBy_alloc _ _ _
  rcases hw.2 with ⟨rfl, h0⟩ | ⟨g0, c0, cur, rfl, _⟩
  · have hl : l = [] := List.eq_nil_of_length_eq_zero h0
    subst hl
    refine wpList_append_own_none hgd s x 22 ho w.heap.size 89 i0 2 Try.underlying22 hi _ 0 [] hs hown0 hx ?_
    exact h w.heap.size 0 _ ha (Nat.le_refl _) hown0
  · have hsrc : ∀ j u, (cellsP l)[j]? = some u → (w.alloc (.cells #[] 89)).cell? ((⟨g0, 0, none⟩ : Addr).add j) = some u := World.ownsRow.cells (World.ownsRow.alloc hw _) rfl
    refine wpList_append_own _ hgd s x 22 ho w.heap.size 89 i0 (.agg #[.int .u64 0, .int .u64 0]) 2 16 Try.underlying22 hi hz0 hz1 hz2 rfl (by decide) _ 0 [] hs hown0 ⟨g0, 0, none⟩ l.length c0 (cellsP l) hx (cellsP_len l) hsrc (cellsP_one l) (by unfold maxLen; omega) (by omega) (by rw [World.size_alloc]; omega) ?_
    intro v' w1 hown hgrow hnil
    rw [Nat.zero_add, List.nil_append] at hown
    have hg1 : w.grownBy w1 none := grown_new (grown_trans (grown_any ha _) hgrow) (Nat.le_refl _)
    rcases hown.2 with ⟨hv, _⟩ | ⟨g, cp, cur', rfl, hgb, _⟩
    · exact absurd (hnil.1 hv).1 (by simp)
    · exact h g cp w1 hg1 hgb hown
theorem wpList_append_pair {w2 : World} {base : Nat} {l : List (Nat × Nat)} {v : Value} (hown : OwnP w2 base v l) (hn : l.length ≤ 1000000) (hbase : base ≤ w2.heap.size) (y z : Nat)
    {ops : Array Oper} {rest : List Oper} {o : Oper} {a : Act} {Q : Exit → Act → World → Prop} (hgd : o.guard = none) (s x : Operand)
    (ho : o.op = .call { callee := .builtin .append, args := #[s, x], argTypes := #[22, 22] })
    (hs : a.eval s = v) (hx : a.eval x = .slice (some ⟨w2.heap.size, 0, none⟩) 1 1)
    (h : ∀ g cp w', OwnP w' base (.slice (some ⟨g, 0, none⟩) (l.length + 1) cp) (l ++ [(y, z)]) → w2.grownBy w' v.ownBlock → (v.ownBlock = some g ∨ g = w2.heap.size + 1) → wpList Try.prog ops Q rest (a.put o.dst (.slice (some ⟨g, 0, none⟩) (l.length + 1) cp)) w') :
    wpList Try.prog ops Q (o :: rest) a (w2.alloc (.cells #[.int .u64 y, .int .u64 z] 89)) := by
  obtain ⟨i0, hi, hz0, hz1, hz2⟩ := info_parts info_put
  refine wpList_append_own_at _ hgd s x 22 ho base 89 i0 (.agg #[.int .u64 0, .int .u64 0]) 2 16 Try.underlying22 hi hz0 hz1 hz2 rfl (by decide) v l.length (cellsP l) hs (World.ownsRow.alloc hown _) ⟨w2.heap.size, 0, none⟩ 1 1 [.int .u64 y, .int .u64 z] hx rfl (cells_two_new _ _ _ _) (by simp [Value.oneCell']) (by unfold maxLen; omega) (by omega) (by rw [World.size_alloc]; omega) fun v' w' h1 h2 _ h4 => ?_
  obtain ⟨g, cp, rfl⟩ := ownsRow_succ h1
  refine h g cp w' ?_ (grown_trans (World.grownBy_alloc _ _ _) h2) ?_
  · unfold OwnP
    rw [cellsP_app, List.length_append]
    exact h1
  · rw [World.size_alloc] at h4
    rcases h4 with h4 | h4
    · exact .inl h4.symm
    · right; injection h4
theorem cellsP_set (l : List (Nat × Nat)) (i y z : Nat) : ((cellsP l).set (i * 2) (.int .u64 (y : Nat))).set (i * 2 + 1) (.int .u64 (z : Nat)) = cellsP (l.set i (y, z)) := by
  induction l generalizing i with
  | nil => rfl
  | cons p r ih =>
    have e : ∀ (q : Nat × Nat) (r : List (Nat × Nat)), cellsP (q :: r) = .int .u64 (q.1 : Nat) :: .int .u64 (q.2 : Nat) :: cellsP r := fun _ _ => rfl
    rcases i with _ | i
    · rw [e, List.set_cons_zero]; rfl
    · rw [show (i + 1) * 2 = i * 2 + 1 + 1 by omega, e]
      simp only [List.set_cons_succ]
      rw [ih i]
      rfl
theorem OwnP.stored {w : World} {base g c : Nat} {l : List (Nat × Nat)} (h : OwnP w base (.slice (some ⟨g, 0, none⟩) l.length c) l) (i y z : Nat) :
    OwnP ((w.setCell ⟨g, i * 2, none⟩ (.int .u64 (y : Nat))).setCell ⟨g, i * 2 + 1, none⟩ (.int .u64 (z : Nat))) base (.slice (some ⟨g, 0, none⟩) l.length c) (l.set i (y, z)) ∧
    w.grownBy ((w.setCell ⟨g, i * 2, none⟩ (.int .u64 (y : Nat))).setCell ⟨g, i * 2 + 1, none⟩ (.int .u64 (z : Nat))) (some g) := by
  have h1 := World.ownsRow.stored h (i * 2) (.int .u64 (y : Nat))
  have h2 := World.ownsRow.stored h1.1 (i * 2 + 1) (.int .u64 (z : Nat))
  refine ⟨?_, grown_trans h1.2 h2.2⟩
  unfold OwnP
  rw [List.length_set, ← cellsP_set]
  exact h2.1
theorem txStore_len (ws : List Nat) (l : List (Nat × Nat)) (off v : Nat) : (txStore ws l off v).length ≤ l.length + 1 := by
  unfold txStore
  split
  · rw [txSet_len]; split <;> omega
  · omega
set_option maxHeartbeats 1000000 in
theorem rtxstore_no {w : World} {base : Nat} {wv pv : Value} {ws : List Nat} {l : List (Nat × Nat)} (h : RTx w base wv pv ws l) (hm : ws.length ≤ 131072) (off v : Nat) (ho : off < 18446744073709551616) (hno : ¬ stands ws off) :
    Calls Try.prog 41 #[.agg #[wv, pv], .int .u64 off, .int .u64 v] w fun e w' => e = .returned (.agg #[wv, pv]) ∧ w.grownBy w' none := by
  have e1 : errW ws off = 1 := by unfold errW; rw [if_neg hno]
  have hc := fun w' (hg : w.grownBy w' none) => rload_any (h.words.later hg) hm off ho
  rw [e1] at hc
  obtain ⟨wa, wc, wg, hwv, _, _⟩ := OwnW.addr h.words
  subst hwv
  obtain ⟨pa, pc, pg, hpv, hpa, hpc⟩ := h.puts.addr
  subst hpv
  clear e1 h hpa hpc
  go_enter Try.func41, Try.ntmps41
  have hg0 : w.grownBy ((w.alloc (.cells #[.slice wa ws.length wc, .slice pa l.length pc] 28)).alloc (.cells #[.slice none 0 0, .slice none 0 0] 28)) none := grown_trans (World.grownBy_alloc _ _ _) (World.grownBy_alloc _ _ _)
  go_wp2_with (go_at_call 60; refine (hc _ hg0).mono ?_; rintro e w1 ⟨rfl, rfl⟩)
  refine bodyPost_ret (v := .agg #[.slice wa ws.length wc, .slice pa l.length pc]) (by simp [results, Try.results41, go_sem]) rfl ⟨rfl, ?_⟩
  exact grown_trans (World.grownBy_alloc _ _ _) (World.grownBy_alloc _ _ _)
def RStored (w : World) (base : Nat) (wv : Value) (ws : List Nat) (l : List (Nat × Nat)) (e : Ending) (w' : World) : Prop := ∃ pv, e = .returned (.agg #[wv, pv]) ∧ RTx w' base wv pv ws l ∧ w.grownBy w' none
theorem rstored_end {w W0 w2 w3 : World} {base g g' b6 n cp : Nat} {wv : Value} {ws : List Nat} {l : List (Nat × Nat)} (hg0 : w.grownBy W0 none) (hb6 : w.heap.size ≤ b6) (hg : W0.heap.size ≤ g) (hne : b6 < W0.heap.size) (hbase : base ≤ w.heap.size) (hw : OwnW w base wv ws)
    (hg2 : W0.grownBy w2 none) (hg3 : w2.grownBy w3 (some g')) (hg' : W0.heap.size ≤ g') (hp : OwnP w3 W0.heap.size (.slice (some ⟨g, 0, none⟩) n cp) l) (u v : Value) :
    RTx ((w3.setCell ⟨b6, 0, none⟩ u).setCell ⟨b6, 1, none⟩ v) base wv (.slice (some ⟨g, 0, none⟩) n cp) ws l ∧ w.grownBy ((w3.setCell ⟨b6, 0, none⟩ u).setCell ⟨b6, 1, none⟩ v) none := by
  have hs : w3.grownBy ((w3.setCell ⟨b6, 0, none⟩ u).setCell ⟨b6, 1, none⟩ v) (some b6) := grown_trans (grown_set _ _ _ _) (grown_set _ _ _ _)
  have h3 : w.grownBy w3 none := grown_step (grown_trans hg0 hg2) hg3 (fun i hi => .inl (by injection hi with hi; have := hg0.size; omega))
  have h4 : w.grownBy ((w3.setCell ⟨b6, 0, none⟩ u).setCell ⟨b6, 1, none⟩ v) none := grown_step h3 hs (fun i hi => .inl (by injection hi with hi; omega))
  refine ⟨⟨hw.later h4, ?_⟩, h4⟩
  refine World.ownsRow.mono (World.ownsRow.kept hp hs (.inr ?_)) (Nat.le_trans hbase hg0.size)
  intro e
  simp only [Value.ownBlock] at e
  injection e with e
  omega
set_option maxHeartbeats 1000000 in
theorem rtxstore_old {w : World} {base : Nat} {wv pv : Value} {ws : List Nat} {l : List (Nat × Nat)} (h : RTx w base wv pv ws l) (hbase : base ≤ w.heap.size) (hm : ws.length ≤ 131072) (hl : l.length ≤ 1000000) (off v : Nat) (ho : off < 18446744073709551616) (hs : stands ws off) (i : Nat) (hi : txAt l off = some i) :
    Calls Try.prog 41 #[.agg #[wv, pv], .int .u64 off, .int .u64 v] w (RStored w base wv ws (txStore ws l off v)) := by
  have e1 : errW ws off = 0 := by unfold errW; rw [if_pos hs]
  have hc := fun w' (hg : w.grownBy w' none) => rload_any (h.words.later hg) hm off ho
  rw [e1] at hc
  obtain ⟨hil, _, _, hset, _⟩ := txAt_some hi
  have e2 : txStore ws l off v = l.set i (off, v) := by unfold txStore; rw [if_pos hs, hset]
  rw [e2]
  obtain ⟨wa, wc, wg, hwv, _, _⟩ := OwnW.addr h.words
  subst hwv
  obtain ⟨pa, pc, pg, hpv, hpa, hpc⟩ := h.puts.addr
  subst hpv
  have hat := fun (wv : Value) (w' : World) (hg : w.grownBy w' none) => rat_any (wv := wv) (h.puts.later hg) hl off ho (i : Int) (by rw [hi])
  obtain ⟨W0, hW0⟩ : ∃ W0, (w.alloc (.cells #[.slice wa ws.length wc, .slice pa l.length pc] 28)).alloc (.cells #[.slice none 0 0, .slice none 0 0] 28) = W0 := ⟨_, rfl⟩
  have hg0 : w.grownBy W0 none := by rw [← hW0]; exact grown_trans (World.grownBy_alloc _ _ _) (World.grownBy_alloc _ _ _)
  have hb3 : W0.heap[w.heap.size]? = some (.cells #[.slice wa ws.length wc, .slice pa l.length pc] 28 (0, 0)) := by
    rw [← hW0]; exact (Below.heap_alloc _ _ _ (by simp)).trans (heap_alloc_new' w _)
  have hb6 : W0.heap[w.heap.size + 1]? = some (.cells #[.slice none 0 0, .slice none 0 0] 28 (0, 0)) := by
    rw [← hW0]
    have := heap_alloc_new' (w.alloc (.cells #[.slice wa ws.length wc, .slice pa l.length pc] 28)) (.cells #[.slice none 0 0, .slice none 0 0] 28)
    rwa [World.size_alloc] at this
  have hsz := lt_of_block hb6
  have hputs := h.puts.later hg0
  have k30 : W0.cell? ⟨w.heap.size, 0, none⟩ = some (.slice wa ws.length wc) := by simp [World.cell?, hb3]
  have k31 : (W0.alloc (.cells #[] 89)).cell? ⟨w.heap.size, 1, none⟩ = some (.slice pa l.length pc) := by
    have := (Below.heap_alloc W0 (.cells #[] 89) _ (lt_of_block hb3)).trans hb3
    simp [World.cell?, this]
  have HW := Lib.hid hW0
  have HI := Lib.hid hi
  have HB3 := Lib.hid hb3
  have HB6 := Lib.hid hb6
  clear e1 e2 hs hset hpa hpc hi hb3 hb6
  go_enter Try.func41, Try.ntmps41
  go_wp2_with (first | (go_at_call 60; clear hW0; refine (hc _ hg0).mono ?_; rintro e w1 ⟨rfl, rfl⟩) | (at_builtin; go_must (refine wpList_append_pairs hputs hl rfl _ _ rfl rfl rfl ?_); intro g cp w1 hgrow hgb hown; have hb3 := (hgrow.block _ (lt_of_block HB3.out) (by simp)).trans HB3.out; have c30 : w1.cell? ⟨w.heap.size, 0, none⟩ = some (.slice wa ws.length wc) := (by simp [World.cell?, hb3]); have c31 : w1.cell? ⟨w.heap.size, 1, none⟩ = some (.slice pa l.length pc) := (by simp [World.cell?, hb3]); clear hb3) | (go_at_call 44; refine (hat _ _ (grown_trans hg0 hgrow)).mono ?_; rintro e w2 ⟨rfl, hg2⟩; have hown2 := hown.later hg2; obtain ⟨e0, e1⟩ := cellsP_at l i hil; have q0 := (World.ownsRow.cellAt hown2 (i * 2) (by omega)).trans e0; have q1 := (World.ownsRow.cellAt hown2 (i * 2 + 1) (by omega)).trans e1; have r0 := World.ownsRow.frozenAt hown2 (i * 2); have r1 := World.ownsRow.frozenAt hown2 (i * 2 + 1); have hgg := grown_trans hgrow hg2; have hb3 := (hgg.block _ (lt_of_block HB3.out) (by simp)).trans HB3.out; have hb6 := (hgg.block _ (lt_of_block HB6.out) (by simp)).trans HB6.out; have d30 : w2.cell? ⟨w.heap.size, 0, none⟩ = some (.slice wa ws.length wc) := (by simp [World.cell?, hb3]); have d60 : w2.cell? ⟨w.heap.size + 1, 0, none⟩ = some (.slice none 0 0) := (by simp [World.cell?, hb6]); have d61 : w2.cell? ⟨w.heap.size + 1, 1, none⟩ = some (.slice none 0 0) := (by simp [World.cell?, hb6]); have f60 : w2.frozen? ⟨w.heap.size + 1, 0, none⟩ = false := (by simp [World.frozen?, hb6]); have f61 : w2.frozen? ⟨w.heap.size + 1, 1, none⟩ = false := (by simp [World.frozen?, hb6]); have n3 : ¬ g = w.heap.size := (by omega); have n3' : ¬ w.heap.size = g := (by omega); have n6 : ¬ g = w.heap.size + 1 := (by omega); have n6' : ¬ w.heap.size + 1 = g := (by omega); have HO := Lib.hid hown2; clear hb3 hb6 e0 e1 hown2 c30 c31 k30 k31))
  obtain ⟨hp3, hg3⟩ := OwnP.stored HO.out i off v
  obtain ⟨q1, q2⟩ := rstored_end hg0 (by omega : w.heap.size ≤ w.heap.size + 1) hgb hsz hbase h.words hgg hg3 hgb hp3 (.slice wa ws.length wc) (.slice (some ⟨g, 0, none⟩) l.length cp)
  refine bodyPost_ret (v := .agg #[.slice wa ws.length wc, .slice (some ⟨g, 0, none⟩) l.length cp]) (by simp [results, Try.results41, go_sem, d60, d61, n6, n6']) rfl ⟨_, rfl, q1, q2⟩
set_option maxHeartbeats 1000000 in
theorem rtxstore_new {w : World} {base : Nat} {wv pv : Value} {ws : List Nat} {l : List (Nat × Nat)} (h : RTx w base wv pv ws l) (hbase : base ≤ w.heap.size) (hm : ws.length ≤ 131072) (hl : l.length ≤ 1000000) (off v : Nat) (ho : off < 18446744073709551616) (hs : stands ws off) (hi : txAt l off = none) :
    Calls Try.prog 41 #[.agg #[wv, pv], .int .u64 off, .int .u64 v] w (RStored w base wv ws (txStore ws l off v)) := by
  have e1 : errW ws off = 0 := by unfold errW; rw [if_pos hs]
  have hc := fun w' (hg : w.grownBy w' none) => rload_any (h.words.later hg) hm off ho
  rw [e1] at hc
  have e2 : txStore ws l off v = l ++ [(off, v)] := by unfold txStore; rw [if_pos hs, txSet_new v (txAt_none.1 hi)]
  rw [e2]
  obtain ⟨wa, wc, wg, hwv, _, _⟩ := OwnW.addr h.words
  subst hwv
  obtain ⟨pa, pc, pg, hpv, hpa, hpc⟩ := h.puts.addr
  subst hpv
  have hat := fun (wv : Value) (w' : World) (hg : w.grownBy w' none) => rat_any (wv := wv) (h.puts.later hg) hl off ho (-1) (by rw [hi])
  obtain ⟨W0, hW0⟩ : ∃ W0, (w.alloc (.cells #[.slice wa ws.length wc, .slice pa l.length pc] 28)).alloc (.cells #[.slice none 0 0, .slice none 0 0] 28) = W0 := ⟨_, rfl⟩
  have hg0 : w.grownBy W0 none := by rw [← hW0]; exact grown_trans (World.grownBy_alloc _ _ _) (World.grownBy_alloc _ _ _)
  have hb3 : W0.heap[w.heap.size]? = some (.cells #[.slice wa ws.length wc, .slice pa l.length pc] 28 (0, 0)) := by
    rw [← hW0]; exact (Below.heap_alloc _ _ _ (by simp)).trans (heap_alloc_new' w _)
  have hb6 : W0.heap[w.heap.size + 1]? = some (.cells #[.slice none 0 0, .slice none 0 0] 28 (0, 0)) := by
    rw [← hW0]
    have := heap_alloc_new' (w.alloc (.cells #[.slice wa ws.length wc, .slice pa l.length pc] 28)) (.cells #[.slice none 0 0, .slice none 0 0] 28)
    rwa [World.size_alloc] at this
  have hsz := lt_of_block hb6
  have hputs := h.puts.later hg0
  have k30 : W0.cell? ⟨w.heap.size, 0, none⟩ = some (.slice wa ws.length wc) := by simp [World.cell?, hb3]
  have k31 : (W0.alloc (.cells #[] 89)).cell? ⟨w.heap.size, 1, none⟩ = some (.slice pa l.length pc) := by
    have := (Below.heap_alloc W0 (.cells #[] 89) _ (lt_of_block hb3)).trans hb3
    simp [World.cell?, this]
  have HI := Lib.hid hi
  have HB3 := Lib.hid hb3
  have HB6 := Lib.hid hb6
  clear e1 e2 hs hpa hpc hi hb3 hb6
  go_enter Try.func41, Try.ntmps41
  go_wp2_with (first | (go_at_call 60; clear hW0; refine (hc _ hg0).mono ?_; rintro e w1 ⟨rfl, rfl⟩) | (at_builtin; refine wpList_append_pairs hputs hl rfl _ _ rfl rfl rfl ?_; intro g cp w1 hgrow hgb hown; have hb3 := (hgrow.block _ (lt_of_block HB3.out) (by simp)).trans HB3.out; have c30 : w1.cell? ⟨w.heap.size, 0, none⟩ = some (.slice wa ws.length wc) := (by simp [World.cell?, hb3]); have c31 : w1.cell? ⟨w.heap.size, 1, none⟩ = some (.slice pa l.length pc) := (by simp [World.cell?, hb3]); clear hb3) | (go_at_call 44; refine (hat _ _ (grown_trans hg0 hgrow)).mono ?_; rintro e w2 ⟨rfl, hg2⟩; have hown2 := hown.later hg2; have hgg := grown_trans hgrow hg2) | (at_builtin; go_must (refine wpList_append_pair hown2 hl hgg.size off v rfl _ _ rfl rfl rfl ?_); intro g3 cp3 w3 hown3 hg3 hloc; have hn6 : some g ≠ some (w.heap.size + 1) := (by intro e; injection e; omega); have hn3 : some g ≠ some (w.heap.size) := (by intro e; injection e; omega); have hb3 := (hg3.block _ (lt_of_block ((hgg.block _ (lt_of_block HB3.out) (by simp)).trans HB3.out)) hn3.symm).trans ((hgg.block _ (lt_of_block HB3.out) (by simp)).trans HB3.out); have hb6 := (hg3.block _ (lt_of_block ((hgg.block _ (lt_of_block HB6.out) (by simp)).trans HB6.out)) hn6.symm).trans ((hgg.block _ (lt_of_block HB6.out) (by simp)).trans HB6.out); have d30 : w3.cell? ⟨w.heap.size, 0, none⟩ = some (.slice wa ws.length wc) := (by simp [World.cell?, hb3]); have d60 : w3.cell? ⟨w.heap.size + 1, 0, none⟩ = some (.slice none 0 0) := (by simp [World.cell?, hb6]); have d61 : w3.cell? ⟨w.heap.size + 1, 1, none⟩ = some (.slice none 0 0) := (by simp [World.cell?, hb6]); have f60 : w3.frozen? ⟨w.heap.size + 1, 0, none⟩ = false := (by simp [World.frozen?, hb6]); have f61 : w3.frozen? ⟨w.heap.size + 1, 1, none⟩ = false := (by simp [World.frozen?, hb6]); clear hb3 hb6 hn3 hn6))
  have hgb3 := (row_block hown3 (g := g3) rfl).1
  have n6 : ¬ g3 = w.heap.size + 1 := by omega
  have n6' : ¬ w.heap.size + 1 = g3 := by omega
  have hp3 : OwnP w3 W0.heap.size (.slice (some ⟨g3, 0, none⟩) (l.length + 1) cp3) (l ++ [(off, v)]) := hown3
  obtain ⟨q1, q2⟩ := rstored_end hg0 (by omega : w.heap.size ≤ w.heap.size + 1) hgb3 hsz hbase h.words hgg hg3 hgb hp3 (.slice wa ws.length wc) (.slice (some ⟨g3, 0, none⟩) (l.length + 1) cp3)
  refine bodyPost_ret (v := .agg #[.slice wa ws.length wc, .slice (some ⟨g3, 0, none⟩) (l.length + 1) cp3]) (by simp [results, Try.results41, go_sem, d60, d61]) rfl ⟨_, rfl, q1, q2⟩
theorem rtxstore_any {w : World} {base : Nat} {wv pv : Value} {ws : List Nat} {l : List (Nat × Nat)} (h : RTx w base wv pv ws l) (hbase : base ≤ w.heap.size) (hm : ws.length ≤ 131072) (hl : l.length ≤ 1000000) (off v : Nat) (ho : off < 18446744073709551616) :
    Calls Try.prog 41 #[.agg #[wv, pv], .int .u64 off, .int .u64 v] w (RStored w base wv ws (txStore ws l off v)) := by
  by_cases hs : stands ws off
  · rcases e : txAt l off with _ | i
    · exact rtxstore_new h hbase hm hl off v ho hs e
    · exact rtxstore_old h hbase hm hl off v ho hs i e
  · refine (rtxstore_no h hm off v ho hs).mono ?_
    rintro e w' ⟨rfl, hg⟩
    refine ⟨pv, rfl, ?_, hg⟩
    have e2 : txStore ws l off v = l := by unfold txStore; rw [if_neg hs]
    rw [e2]
    exact h.later hg
end Go.Proofs.Ytkkkgikmeiocaaa
namespace Go.Proofs.Ytkkkgikmeiocaaa
open Go.RowKit
structure Txs (w0 w : World) (T M : Nat) (R : Option Nat) (B D : Nat) (ws : List Nat) (l : List (Nat × Nat)) : Prop where
  tx : Thinks w T M R B D ws l
  since : w0.grownBy w none
  newT : w0.heap.size ≤ T
  newM : w0.heap.size ≤ M
  newR : ∀ g, R = some g → w0.heap.size ≤ g
  newB : w0.heap.size ≤ B
  newD : w0.heap.size ≤ D
section
variable {w0 w w' : World} {T M : Nat} {R : Option Nat} {B D : Nat} {ws ws' : List Nat} {l l' : List (Nat × Nat)}
theorem Txs.later (h : Txs w0 w T M R B D ws l) (hg : w.grownBy w' none) : Txs w0 w' T M R B D ws l :=
  ⟨h.tx.later hg, grown_trans h.since hg, h.newT, h.newM, h.newR, h.newB, h.newD⟩
theorem Txs.foot_new (h : Txs w0 w T M R B D ws l) {k : Nat} (hk : foot T M R k) : w0.heap.size ≤ k := by
  rcases hk with rfl | rfl | hk
  · exact h.newT
  · exact h.newM
  · exact h.newR _ hk
theorem Txs.step (h : Txs w0 w T M R B D ws l) (ht : Thought w T M R B D ws l' w') :
    ∃ R', Txs w0 w' T M R' B D ws l' ∧ Turned (foot T M R) w w' ∧ (R' = R ∨ ∃ g, R' = some g ∧ w.heap.size ≤ g) := by
  obtain ⟨R', h1, h2, h3⟩ := ht
  refine ⟨R', ⟨h1, ?_, h.newT, h.newM, ?_, h.newB, h.newD⟩, h2, h3⟩
  · exact ((Turned.of_none h.since (foot T M R)).trans h2 (fun i hi => .inl hi)).grown (fun i hi => h.foot_new hi)
  · intro g hg
    rcases h3 with rfl | ⟨g', rfl, hg'⟩
    · exact h.newR g hg
    · injection hg with hg
      subst hg
      exact Nat.le_trans h.since.size hg'
theorem Txs.seg (h : Txs w0 w T M R B D ws l) (hg : w.grownBy w' (some D)) (ht : Thinks w' T M R B D ws' l) : Txs w0 w' T M R B D ws' l :=
  ⟨ht, grown_step h.since hg (fun i hi => .inl (by injection hi with hi; subst hi; exact h.newD)), h.newT, h.newM, h.newR, h.newB, h.newD⟩
end
section
variable {w w' : World} {T M : Nat} {R : Option Nat} {B D : Nat} {ws : List Nat} {l : List (Nat × Nat)}
theorem OwnW.past (h : Thinks w T M R B D ws l) (ht : Turned (foot T M R) w w') {base : Nat} {v : Value} {xs : List Nat} (ho : OwnW w base v xs) (hne : ∀ g, v.ownBlock = some g → R ≠ some g) : OwnW w' base v xs :=
  row_turned ho ht (fun g hg hf => by
    obtain ⟨_, cur, hb⟩ := row_block ho hg
    obtain ⟨tv, h1, _⟩ := h.head
    obtain ⟨Da, h2, _⟩ := h.map
    obtain ⟨es, clock, h2⟩ := map_block h2
    rcases hf with e | e | e
    · exact ne_type h1 hb (by decide) e.symm
    · exact ne_map hb h2 e
    · exact hne g hg e)
theorem OwnP.past (h : Thinks w T M R B D ws l) (ht : Turned (foot T M R) w w') {base : Nat} {v : Value} {xs : List (Nat × Nat)} (ho : OwnP w base v xs) : OwnP w' base v xs :=
  row_turned ho ht (fun g hg hf => by
    obtain ⟨_, cur, hb⟩ := row_block ho hg
    obtain ⟨tv, h1, _⟩ := h.head
    obtain ⟨Da, h2, _⟩ := h.map
    obtain ⟨es, clock, h2⟩ := map_block h2
    rcases hf with e | e | e
    · exact ne_type h1 hb (by decide) e.symm
    · exact ne_map hb h2 e
    · obtain ⟨c2, hr⟩ := h.row e
      exact ne_type hb hr (by decide) rfl)
theorem Thinks.far (h : Thinks w T M R B D ws l) {b : Nat} {c : Array Value} {t : TypeId} {fr : Nat × Nat} (hb : w.heap[b]? = some (.cells c t fr)) (h1 : t ≠ 101) (h2 : t ≠ 31) : ¬ foot T M R b := by
  obtain ⟨tv, k1, _⟩ := h.head
  obtain ⟨Da, k2, _⟩ := h.map
  obtain ⟨es, clock, k2⟩ := map_block k2
  rintro (e | e | e)
  · exact ne_type hb k1 h1 e
  · exact ne_map hb k2 e
  · obtain ⟨c2, hr⟩ := h.row e
    exact ne_type hb hr h2 rfl
end
def thinkL (ws : List Nat) (X V : Nat → Nat) : Nat → List (Nat × Nat)
  | 0 => []
  | k + 1 => txStore ws (thinkL ws X V k) (X k) (V k)
theorem thinkL_ok {ws : List Nat} {X V : Nat → Nat} (hV : ∀ i, V i < 18446744073709551616) : ∀ k, TxOk ws (thinkL ws X V k)
  | 0 => TxOk.empty _
  | k + 1 => (thinkL_ok hV k).store _ (hV k)
end Go.Proofs.Ytkkkgikmeiocaaa
