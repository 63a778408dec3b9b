/-
  The contracts of the plain answers of layer 3: Load of words; at, Old and Load of words that are thought of.
  Conditions: the words, and the pairs, are rows of the call's own, or nil; the numbers are of 64 bits.
-/
import Derived.Test.YtkpopaadkfgjaaaTxE
import Derived.Laws.StructEq
import Derived.Deep.AppendLies
import Derived.Laws.AppendOwnNone
namespace Go.Proofs.Ytkpopaadkfgjaaa
open Go.RowKit
set_option linter.unusedVariables false
set_option linter.unusedSimpArgs false

theorem rload_any {w : World} {base : Nat} {v : Value} {ws : List Nat} (h : OwnW w base v ws) (hm : ws.length ≤ 131072) (off : Nat) (ho : off < 18446744073709551616) :
    Calls Try.prog 48 #[v, .int .u64 off] w fun e w' => e = .returned (.tuple #[.int .u64 (getW ws off : Nat), .int .i64 (errW ws off : Nat)]) ∧ w = w' := by
  have hc := rin_any h hm off ho
  by_cases hs : stands ws off
  · rw [decide_eq_true hs] at hc
    have hq : off / 8 < ws.length := by have := hs.1; have := hs.2; omega
    obtain ⟨g0, c0, rfl, hg0, hg0'⟩ := World.ownsRow.form h (by omega)
    have hcell := OwnW.at_ h (off / 8) hq
    have e1 : getW ws off = ws.getD (off / 8) 0 := by unfold getW; rw [if_pos hs]
    have e2 : errW ws off = 0 := by unfold errW; rw [if_pos hs]
    rw [← e1] at hcell
    rw [e2]
    have hdiv : ((off : Int) / 8).toNat = off / 8 := by omega
    have hlt : (off : Int) / 8 < ws.length := by omega
    have HD := Lib.hid hdiv
    clear e1 e2 hs h hdiv
    go_enter Try.func48, Try.ntmps48
    go_wp2_with (go_at_call 68; refine hc.mono ?_; rintro e w' ⟨rfl, rfl⟩)
    go_ret2
    exact ⟨rfl, rfl⟩
  · rw [decide_eq_false hs] at hc
    have e1 : getW ws off = 0 := by unfold getW; rw [if_neg hs]
    have e2 : errW ws off = 1 := by unfold errW; rw [if_neg hs]
    rw [e1, e2]
    clear e1 e2 hs
    go_enter Try.func48, Try.ntmps48
    go_wp2_with (go_at_call 68; refine hc.mono ?_; rintro e w' ⟨rfl, rfl⟩)
    go_ret2
    exact ⟨rfl, rfl⟩

/-! ### Places -/
/-- the place of an offset -/
def txAt : List (Nat × Nat) → Nat → Option Nat
  | [], _ => none
  | p :: r, off => if p.1 = off then some 0 else (txAt r off).map (· + 1)
theorem txAt_none {l : List (Nat × Nat)} {off : Nat} : txAt l off = none ↔ txGet l off = none := by
  induction l with
  | nil => simp [txAt, txGet]
  | cons p r ih =>
    unfold txAt txGet
    by_cases e : p.1 = off
    · rw [if_pos e, if_pos e]; simp
    · rw [if_neg e, if_neg e, ← ih]; simp
theorem txX_cons (p : Nat × Nat) (r : List (Nat × Nat)) (k : Nat) : txX (p :: r) (k + 1) = txX r k := by simp [txX]
theorem txV_cons (p : Nat × Nat) (r : List (Nat × Nat)) (k : Nat) : txV (p :: r) (k + 1) = txV r k := by simp [txV]
theorem txAt_some {l : List (Nat × Nat)} {off i : Nat} (h : txAt l off = some i) : i < l.length ∧ txX l i = off ∧ txGet l off = some (txV l i) ∧ (∀ v, txSet l off v = l.set i (off, v)) ∧ ∀ j, j < i → txX l j ≠ off := by
  induction l generalizing i with
  | nil => cases h
  | cons p r ih =>
    unfold txAt at h
    by_cases e : p.1 = off
    · rw [if_pos e] at h
      injection h with h
      subst h
      refine ⟨by simp, by simpa [txX] using e, by unfold txGet; rw [if_pos e]; rfl, fun v => by unfold txSet; rw [if_pos e]; rfl, fun j hj => absurd hj (Nat.not_lt_zero _)⟩
    · rw [if_neg e] at h
      rcases e2 : txAt r off with _ | k
      · rw [e2] at h; cases h
      · rw [e2] at h
        injection h with h
        simp only at h
        subst h
        obtain ⟨h1, h2, h3, h4, h5⟩ := ih e2
        refine ⟨by simpa using h1, by rw [txX_cons]; exact h2, by unfold txGet; rw [if_neg e, h3, txV_cons], fun v => by unfold txSet; rw [if_neg e, h4]; rfl, fun j hj => ?_⟩
        rcases j with _ | j
        · simpa [txX] using e
        · rw [txX_cons]; exact h5 j (by omega)
theorem txAt_nobody {l : List (Nat × Nat)} {off : Nat} (h : txAt l off = none) : ∀ j, j < l.length → txX l j ≠ off := by
  induction l with
  | nil => intro j hj; exact absurd hj (Nat.not_lt_zero _)
  | cons p r ih =>
    unfold txAt at h
    by_cases e : p.1 = off
    · rw [if_pos e] at h; cases h
    · rw [if_neg e] at h
      have h2 : txAt r off = none := by
        rcases e2 : txAt r off with _ | k
        · rfl
        · rw [e2] at h; cases h
      intro j hj
      rcases j with _ | j
      · simpa [txX] using e
      · rw [txX_cons]; exact ih h2 j (by simpa using hj)

/-! ### Rows of pairs -/
theorem cellsP_len (l : List (Nat × Nat)) : (cellsP l).length = l.length * 2 := by
  induction l with
  | nil => rfl
  | cons p r ih =>
    unfold cellsP at ih ⊢
    rw [List.flatMap_cons, List.length_append, ih, List.length_cons]
    simp only [List.length_cons, List.length_nil]
    omega
theorem cellsP_app (a b : List (Nat × Nat)) : cellsP (a ++ b) = cellsP a ++ cellsP b := by simp [cellsP, List.flatMap_append]
theorem cellsP_one (l : List (Nat × Nat)) : ∀ u ∈ cellsP l, u.oneCell' = true := by
  intro u hu
  obtain ⟨p, _, h⟩ := List.mem_flatMap.1 hu
  simp at h
  rcases h with rfl | rfl <;> rfl
theorem cellsP_at (l : List (Nat × Nat)) (k : Nat) (h : k < l.length) : (cellsP l)[k * 2]? = some (.int .u64 (txX l k : Nat)) ∧ (cellsP l)[k * 2 + 1]? = some (.int .u64 (txV l k : Nat)) := by
  induction l generalizing k with
  | nil => exact absurd h (Nat.not_lt_zero _)
  | cons p r ih =>
    have e : cellsP (p :: r) = .int .u64 (p.1 : Nat) :: .int .u64 (p.2 : Nat) :: cellsP r := rfl
    rw [e]
    rcases k with _ | k
    · exact ⟨rfl, rfl⟩
    · have := ih k (by simpa using h)
      rw [show (k + 1) * 2 = k * 2 + 1 + 1 by omega, List.getElem?_cons_succ, List.getElem?_cons_succ, List.getElem?_cons_succ, List.getElem?_cons_succ, txX_cons, txV_cons]
      exact this
theorem OwnP.later {w w' : World} {base : Nat} {v : Value} {l : List (Nat × Nat)} (h : OwnP w base v l) (hg : w.grownBy w' none) : OwnP w' base v l := own_kept h hg
theorem OwnP.addr {w : World} {base : Nat} {v : Value} {l : List (Nat × Nat)} (h : OwnP w base v l) : ∃ a c g, v = .slice a l.length c ∧ (0 < l.length → a = some ⟨g, 0, none⟩) ∧
    ∀ w', OwnP w' base v l → ∀ k, k < l.length → w'.cell? ⟨g, k * 2, none⟩ = some (.int .u64 (txX l k : Nat)) ∧ w'.cell? ⟨g, k * 2 + 1, none⟩ = some (.int .u64 (txV l k : Nat)) := by
  rcases h.2 with ⟨h1, h2⟩ | ⟨g, cap, cur, hv, _⟩
  · exact ⟨none, 0, 0, by rw [h1, h2], fun h => by omega, fun w' _ j hj => by omega⟩
  · refine ⟨_, cap, g, hv, fun _ => rfl, fun w' h' k hk => ?_⟩
    rw [hv] at h'
    have hl := cellsP_len l
    have c0 := World.ownsRow.cellAt h' (k * 2) (by omega)
    have c1 := World.ownsRow.cellAt h' (k * 2 + 1) (by omega)
    obtain ⟨e0, e1⟩ := cellsP_at l k hk
    exact ⟨c0.trans e0, c1.trans e1⟩

/-! ### at -/
theorem txAt_is {l : List (Nat × Nat)} {off k : Nat} (h : k < l.length) (hx : txX l k = off) (hj : ∀ j, j < k → txX l j ≠ off) : txAt l off = some k := by
  rcases e : txAt l off with _ | i
  · exact absurd hx (txAt_nobody e k h)
  · obtain ⟨h1, h2, _, _, h5⟩ := txAt_some e
    rcases Nat.lt_trichotomy i k with hlt | heq | hgt
    · exact absurd h2 (hj i hlt)
    · rw [heq]
    · exact absurd hx (h5 k hgt)
theorem txAt_not {l : List (Nat × Nat)} {off : Nat} (hj : ∀ j, j < l.length → txX l j ≠ off) : txAt l off = none := by
  rcases e : txAt l off with _ | i
  · rfl
  · obtain ⟨h1, h2, _⟩ := txAt_some e
    exact absurd h2 (hj i h1)
set_option maxHeartbeats 400000 in
theorem rat_any {w : World} {base : Nat} {wv pv : Value} {l : List (Nat × Nat)} (h : OwnP w base pv l) (hl : l.length ≤ 1000000) (off : Nat) (ho : off < 18446744073709551616) (r : Int) (hr : r = match txAt l off with | some i => (i : Int) | none => -1) :
    Calls Try.prog 49 #[.agg #[wv, pv], .int .u64 off] w fun e w' => e = .returned (.int .i64 r) ∧ w.grownBy w' none := by
  obtain ⟨pa, pc, pg, hpv, hpa, hpc⟩ := h.addr
  have hpc' := fun w' (hg : w.grownBy w' none) => hpc w' (h.later hg)
  clear hpc h
  subst hpv
  have HPA := Lib.hid hpa
  have HR := Lib.hid hr
  clear hpa hr
  have hg0 : w.grownBy (w.alloc (.cells #[wv, .slice pa l.length pc] 27)) none := World.grownBy_alloc _ _ _
  go_enter Try.func49, Try.ntmps49
  go_wp2
  go_loop [5] (fun i => ∃ k : Nat, k ≤ l.length ∧ i = .int .i64 k ∧ Hid (∀ j, j < k → txX l j ≠ off)) (fun i => l.length - (intOf i).toNat)
  case atStart => exact ⟨0, Nat.zero_le _, rfl, Lib.hid (fun j hj => absurd hj (Nat.not_lt_zero _))⟩
  case round =>
    obtain ⟨k, hk, rfl, HJ⟩ := hrel
    rcases Nat.lt_or_ge k l.length with h1 | h1
    · obtain ⟨c1, c2⟩ := hpc' _ hg0 k h1
      have ea := HPA.out (by omega)
      subst ea
      by_cases hx : txX l k = off
      · have e1 : ((txX l k : Int) == (off : Int)) = true := by rw [beq_iff_eq]; omega
        have HX := Lib.hid hx
        clear hx
        go_wp2
        go_ret
        refine ⟨ret_int' ?_, hg0⟩
        rw [HR.out, txAt_is h1 HX.out HJ.out]
      · have e1 : ((txX l k : Int) == (off : Int)) = false := by rw [beq_eq_false_iff_ne]; omega
        have HX := Lib.hid hx
        clear hx
        go_wp2
        go_round
        case rel =>
          refine ⟨k + 1, by omega, by go_num, Lib.hid fun j hj => ?_⟩
          rcases Nat.lt_or_ge j k with h' | h'
          · exact HJ.out j h'
          · rw [show j = k by omega]; exact HX.out
        case measure => simp [intOf]; omega
    · obtain rfl : k = l.length := by omega
      go_wp2
      go_ret
      refine ⟨ret_int' ?_, hg0⟩
      rw [HR.out, txAt_not HJ.out]
/-- Words that are thought of, as the plain answer has them: a value of two rows. -/
structure RTx (w : World) (base : Nat) (wv pv : Value) (ws : List Nat) (l : List (Nat × Nat)) : Prop where
  words : OwnW w base wv ws
  puts : OwnP w base pv l
theorem RTx.later {w w' : World} {base : Nat} {wv pv : Value} {ws : List Nat} {l : List (Nat × Nat)} (h : RTx w base wv pv ws l) (hg : w.grownBy w' none) : RTx w' base wv pv ws l := ⟨h.words.later hg, h.puts.later hg⟩
theorem rold_any {w : World} {base : Nat} {wv pv : Value} {ws : List Nat} {l : List (Nat × Nat)} (h : RTx w base wv pv ws l) (hm : ws.length ≤ 131072) (off : Nat) (ho : off < 18446744073709551616) :
    Calls Try.prog 52 #[.agg #[wv, pv], .int .u64 off] w fun e w' => e = .returned (.int .u64 (getW ws off : Nat)) ∧ w.grownBy w' none := by
  have hg0 : w.grownBy (w.alloc (.cells #[wv, pv] 27)) none := World.grownBy_alloc _ _ _
  have hc := rload_any (h.words.later hg0) hm off ho
  go_enter Try.func52, Try.ntmps52
  go_wp2_with (go_at_call 48; refine hc.mono ?_; rintro e w' ⟨rfl, rfl⟩)
  go_ret
  exact ⟨rfl, hg0⟩
theorem rtxload_any {w : World} {base : Nat} {wv pv : Value} {ws : List Nat} {l : List (Nat × Nat)} (h : RTx w base wv pv ws l) (hm : ws.length ≤ 131072) (hl : l.length ≤ 1000000) (off : Nat) (ho : off < 18446744073709551616) :
    Calls Try.prog 30 #[.agg #[wv, pv], .int .u64 off] w fun e w' => e = .returned (.int .u64 (txSee ws l off : Nat)) ∧ w.grownBy w' none := by
  have hg0 : w.grownBy (w.alloc (.cells #[wv, pv] 27)) none := World.grownBy_alloc _ _ _
  obtain ⟨wa, wc, wg, hwv, _, _⟩ := OwnW.addr h.words
  subst hwv
  obtain ⟨pa, pc, pg, hpv, hpa, hpc⟩ := h.puts.addr
  subst hpv
  have hbox : (w.alloc (.cells #[.slice wa ws.length wc, .slice pa l.length pc] 27)).heap[w.heap.size]? = some (.cells #[.slice wa ws.length wc, .slice pa l.length pc] 27 (0, 0)) := heap_alloc_new' _ _
  rcases e : txAt l off with _ | i
  · have hat := fun w' (hg : w.grownBy w' none) => rat_any (wv := .slice wa ws.length wc) (h.puts.later hg) hl off ho (-1) (by rw [e])
    have hold := fun w' (hg : w.grownBy w' none) => rold_any (h.later hg) hm off ho
    have hsee : txSee ws l off = getW ws off := by unfold txSee; rw [txAt_none.1 e]; rfl
    rw [hsee]
    clear e hsee h hpa hpc
    go_enter Try.func30, Try.ntmps30
    go_wp2_with (first | (go_at_call 49; refine (hat _ hg0).mono ?_; rintro e w1 ⟨rfl, hg1⟩; have hb := (hg1.block _ (lt_of_block hbox) (by simp)).trans hbox; have c0 : w1.cell? ⟨w.heap.size, 0, none⟩ = some (.slice wa ws.length wc) := (by simp [World.cell?, hb]); have c1 : w1.cell? ⟨w.heap.size, 1, none⟩ = some (.slice pa l.length pc) := (by simp [World.cell?, hb]); have HB := Lib.hid hb; clear hb) | (go_at_call 52; refine (hold _ (grown_trans hg0 hg1)).mono ?_; rintro e w2 ⟨rfl, hg2⟩))
    go_ret
    exact ⟨rfl, grown_trans (grown_trans hg0 hg1) hg2⟩
  · have hat := fun w' (hg : w.grownBy w' none) => rat_any (wv := .slice wa ws.length wc) (h.puts.later hg) hl off ho (i : Int) (by rw [e])
    obtain ⟨hi, _, hget, _, _⟩ := txAt_some e
    have hsee : txSee ws l off = txV l i := by unfold txSee; rw [hget]; rfl
    rw [hsee]
    have hpc' := fun w' (hg : w.grownBy w' none) => hpc w' (h.puts.later hg) i hi
    have ea := hpa (by omega)
    subst ea
    clear e hsee h hpa hpc hget
    go_enter Try.func30, Try.ntmps30
    go_wp2_with (first | (go_at_call 49; refine (hat _ hg0).mono ?_; rintro e w1 ⟨rfl, hg1⟩; obtain ⟨k1, k2⟩ := hpc' _ (grown_trans hg0 hg1); have hb := (hg1.block _ (lt_of_block hbox) (by simp)).trans hbox; have c0 : w1.cell? ⟨w.heap.size, 0, none⟩ = some (.slice wa ws.length wc) := (by simp [World.cell?, hb]); have c1 : w1.cell? ⟨w.heap.size, 1, none⟩ = some (.slice (some ⟨pg, 0, none⟩) l.length pc) := (by simp [World.cell?, hb]); have HB := Lib.hid hb; clear hb))
    go_ret
    exact ⟨rfl, grown_trans hg0 hg1⟩
end Go.Proofs.Ytkpopaadkfgjaaa
