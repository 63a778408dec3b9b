/-
  Texts of one layer, one behind the other: memory, contracts of the functions, and what follows of them.
  Conditions: as each theorem says.
-/
import Derived.Test.YtkkkgikmeiocaaaDirC
import Derived.Test.YtkkkgikmeiocaaaLTxb
import Derived.Test.YtkkkgikmeiocaaaLTxa
import Derived.Deep.RegionHeld3
import Derived.Test.YtkkkgikmeiocaaaLTaa
set_option linter.unusedVariables false
set_option linter.unusedSimpArgs false
namespace Go.Proofs.Ytkkkgikmeiocaaa
open Go.RowKit
set_option maxRecDepth 100000
def nameD (a b : Nat) : Option ByteArray := if nmOk (strOf a b (byteAt a b 0)) ∧ loD (strOf a b (byteAt a b 0)) = a ∧ hiD (strOf a b (byteAt a b 0)) = b then some (strOf a b (byteAt a b 0)) else none
theorem nameD_some {a b : Nat} {s : ByteArray} (h : nameD a b = some s) : nmOk s ∧ loD s = a ∧ hiD s = b := by
  unfold nameD at h
  split at h
  · rename_i h1
    injection h with h
    rw [← h]
    exact h1
  · cases h
theorem nameD_is {s : ByteArray} (hs : nmOk s) : nameD (loD s) (hiD s) = some s := by
  have e1 : loD s = loS s := if_pos hs
  have e2 : hiD s = hiS s := if_pos hs
  have e3 : strOf (loD s) (hiD s) (byteAt (loD s) (hiD s) 0) = s := by
    rw [e1, e2, byte_first s (by have := hs.2; omega), str_of]
  unfold nameD
  rw [e3, if_pos ⟨hs, rfl, rfl⟩]
theorem nameD_none {a b : Nat} (h : nameD a b = none) (s : ByteArray) (hs : nmOk s) : ¬ (loD s = a ∧ hiD s = b) := fun ⟨e1, e2⟩ => by
  rw [← e1, ← e2, nameD_is hs] at h
  cases h
theorem bothname13 {a b : Nat} (ha : a < 18446744073709551616) (hb : b < 18446744073709551616) :
    (∀ w : World, Calls Try.prog 33 #[.agg #[.int .u64 a, .int .u64 b]] w fun e w' => e = .returned (.tuple #[.string ((nameD a b).getD ByteArray.empty), .bool (nameD a b).isSome]) ∧ w.grownBy w' none) ∧
    (∀ w : World, Calls Try.prog 34 #[.agg #[.int .u64 a, .int .u64 b]] w fun e w' => e = .returned (.tuple #[.string ((nameD a b).getD ByteArray.empty), .bool (nameD a b).isSome]) ∧ w.grownBy w' none) := by
  cases h : nameD a b with
  | some s =>
    obtain ⟨hs, rfl, rfl⟩ := nameD_some h
    have e1 : loD s = loS s := if_pos hs
    have e2 : hiD s = hiS s := if_pos hs
    rw [e1, e2]
    exact ⟨fun w => (name_yes s hs.1 hs.2 w).mono fun e w' ⟨h1, h2⟩ => ⟨h1, below_grown h2⟩, fun w => (rname_yes s hs.1 hs.2 w).mono fun e w' ⟨h1, h2⟩ => ⟨h1, below_grown h2⟩⟩
  | none =>
    have hno : ∀ s : ByteArray, 1 ≤ s.size → s.size ≤ 15 → ¬ (loS s = a ∧ hiS s = b) := fun s x y e => nameD_none h s ⟨x, y⟩ ⟨by unfold loD; rw [if_pos ⟨x, y⟩]; exact e.1, by unfold hiD; rw [if_pos ⟨x, y⟩]; exact e.2⟩
    exact ⟨fun w => (name_no a b ha hb hno w).mono fun e w' ⟨h1, h2⟩ => ⟨h1, below_grown h2⟩, fun w => (rname_no a b ha hb hno w).mono fun e w' ⟨h1, h2⟩ => ⟨h1, below_grown h2⟩⟩
def cellsN (l : List (ByteArray × Nat)) : List Value := l.flatMap fun p => [.string p.1, .int .u64 (p.2 : Nat)]
def OwnN (w : World) (base : Nat) (t : TypeId) (v : Value) (l : List (ByteArray × Nat)) : Prop := w.ownsRow base t 2 v l.length (cellsN l)
def entS (l : List (ByteArray × Nat)) (k : Nat) : ByteArray := (l.getD k (ByteArray.empty, 0)).1
def entO (l : List (ByteArray × Nat)) (k : Nat) : Nat := (l.getD k (ByteArray.empty, 0)).2
theorem cellsN_app (a b : List (ByteArray × Nat)) : cellsN (a ++ b) = cellsN a ++ cellsN b := by simp [cellsN, List.flatMap_append]
theorem cellsN_at (l : List (ByteArray × Nat)) (k : Nat) (h : k < l.length) : (cellsN l)[k * 2]? = some (.string (entS l k)) ∧ (cellsN l)[k * 2 + 1]? = some (.int .u64 (entO l k : Nat)) := by
  induction l generalizing k with
  | nil => exact absurd h (Nat.not_lt_zero _)
  | cons p r ih =>
    have e : cellsN (p :: r) = .string p.1 :: .int .u64 (p.2 : Nat) :: cellsN r := rfl
    rw [e]
    rcases k with _ | k
    · exact ⟨rfl, rfl⟩
    · have := ih k (by simpa using h)
      rw [show (k + 1) * 2 = k * 2 + 1 + 1 by omega, List.getElem?_cons_succ, List.getElem?_cons_succ, List.getElem?_cons_succ, List.getElem?_cons_succ]
      exact this
theorem OwnN.later {w w' : World} {base : Nat} {t : TypeId} {v : Value} {l : List (ByteArray × Nat)} (h : OwnN w base t v l) (hg : w.grownBy w' none) : OwnN w' base t v l := own_kept h hg
theorem OwnN.mono {w : World} {base base' : Nat} {t : TypeId} {v : Value} {l : List (ByteArray × Nat)} (h : OwnN w base t v l) (hb : base' ≤ base) : OwnN w base' t v l := World.ownsRow.mono h hb
theorem OwnN.form {w : World} {base : Nat} {t : TypeId} {v : Value} {l : List (ByteArray × Nat)} (h : OwnN w base t v l) : ∃ a c, v = .slice a l.length c := by
  rcases h.2 with ⟨h1, h2⟩ | ⟨g, cap, cur, hv, _⟩
  · exact ⟨none, 0, by rw [h1, h2]⟩
  · exact ⟨_, cap, hv⟩
theorem OwnN.new {w : World} {base g : Nat} {t : TypeId} {v : Value} {l : List (ByteArray × Nat)} (h : OwnN w base t v l) (hg : v.ownBlock = some g) : base ≤ g := by
  rcases h.2 with ⟨h1, _⟩ | ⟨g2, cap, cur, hv, hb, _⟩
  · rw [h1] at hg; cases hg
  · rw [hv] at hg
    have hg' : some g2 = some g := hg
    injection hg' with hg'
    omega
theorem info_rent : (Try.prog.info? 74).map (fun i => (i.zero, i.size, i.bytes)) = some (some (.agg #[.string ByteArray.empty, .int .u64 0]), 2, 24) := by kernel_rfl
theorem wpList_append_rent {w2 : World} {base : Nat} {l : List (ByteArray × Nat)} {v : Value} (hown : OwnN w2 base 74 v l) (hn : l.length ≤ 1000000) (hbase : base ≤ w2.heap.size) (y : ByteArray) (z : Nat)
    {ops : Array Oper} {rest : List Oper} {o : Oper} {a : Act} {Q : Exit → Act → World → Prop} (hgd : o.guard = none) (s x : Operand)
    (ho : o.op = .call { callee := .builtin .append, args := #[s, x], argTypes := #[41, 41] })
    (hs : a.eval s = v) (hx : a.eval x = .slice (some ⟨w2.heap.size, 0, none⟩) 1 1)
    (h : ∀ v' w', OwnN w' base 74 v' (l ++ [(y, z)]) → w2.grownBy w' v.ownBlock → wpList Try.prog ops Q rest (a.put o.dst v') w') :
    wpList Try.prog ops Q (o :: rest) a (w2.alloc (.cells #[.string y, .int .u64 z] 74)) := by
  obtain ⟨i0, hi, hz0, hz1, hz2⟩ := info_parts info_rent
  refine wpList_append_own_at _ hgd s x 41 ho base 74 i0 (.agg #[.string ByteArray.empty, .int .u64 0]) 2 24 Try.underlying41 hi hz0 hz1 hz2 rfl (by decide) v l.length (cellsN l) hs (World.ownsRow.alloc hown _) ⟨w2.heap.size, 0, none⟩ 1 1 [.string y, .int .u64 z] hx rfl (cells_two_new _ _ _ _) (by simp [Value.oneCell']) (by unfold maxLen; omega) (by omega) (by rw [World.size_alloc]; omega) fun v' w' h1 h2 _ h4 => ?_
  refine h v' w' ?_ (grown_trans (World.grownBy_alloc _ _ _) h2)
  unfold OwnN
  rw [cellsN_app, List.length_append]
  exact h1
def nmdF (f : Nat → Nat) (p : Nat) : Nat → Nat → Bool
  | 0, _ => false
  | n + 1, k => if 1 < p ∧ f (dAt k + 16) = p then true else nmdF f p n (k + 1)
theorem nmdF_step {f : Nat → Nat} {p k : Nat} (hk : k < 16) : nmdF f p (16 - k) k = if 1 < p ∧ f (dAt k + 16) = p then true else nmdF f p (16 - (k + 1)) (k + 1) := by
  rw [show 16 - k = (16 - (k + 1)) + 1 by omega]
  rfl
section
variable {w w' : World} {f : Nat → Nat} {wv pv : Value} {p : Nat}
set_option maxHeartbeats 4000000 in
theorem rnamed13 (hld : RLd w (.agg #[wv, pv]) f) (hp : p < 18446744073709551616) :
    Calls Try.prog 18 #[.agg #[wv, pv], .int .u64 (p : Nat)] w fun e w' => e = .returned (.bool (nmdF f p 16 0)) ∧ w.grownBy w' none := by
  have hg0 := World.grownBy_alloc w (.cells #[wv, pv] 28) none
  obtain ⟨r, er⟩ : ∃ r, nmdF f p 16 0 = r := ⟨_, rfl⟩
  rw [er]
  have ER := Lib.hid er
  obtain ⟨W0, hW0⟩ : ∃ W0, w.alloc (.cells #[wv, pv] 28) = W0 := ⟨_, rfl⟩
  have hbox : ∀ w', W0.grownBy w' none → w'.heap[w.heap.size]? = some (.cells #[wv, pv] 28 (0, 0)) := fun w' hg => tx_one (hW0 ▸ hg)
  rw [hW0] at hg0
  have HB := Lib.hid hbox
  have HL := Lib.hid (hld.later hg0)
  have HG0 := Lib.hid hg0
  clear er hld hbox hg0
  go_enter Try.func18, Try.ntmps18
  go_wp2
  clear hW0
  go_loopw [5] (fun i wr => ∃ k : Nat, k ≤ 16 ∧ i = .int .i64 k ∧ W0.grownBy wr none ∧ Hid (nmdF f p (16 - k) k = r)) (fun i _ => 16 - (intOf i).toNat)
  case atStart => exact ⟨0, Nat.zero_le _, rfl, grown_refl _ _, ER⟩
  case round =>
    obtain ⟨k, hk, rfl, hgr, HR⟩ := hrel
    by_cases h1 : k < 16
    · have hst := HR.out
      rw [nmdF_step h1] at hst
      have hat := fun V => rat13_any k (by omega) V
      have hlt : dAt k + 16 < 4000 := by unfold dAt; omega
      obtain ⟨d, ed⟩ : ∃ d, dAt k = d := ⟨_, rfl⟩
      rw [ed] at hst hlt hat
      have e16 : IntKind.u64.wrap ((d : Int) + 16) = ((d + 16 : Nat) : Int) := by rw [IntKind.wrap_u64]; omega
      have hl := fun V (hg : wr.grownBy V none) => HL.out V (d + 16) (grown_trans hgr hg) (by omega)
      obtain ⟨x, ex⟩ : ∃ x, f (d + 16) = x := ⟨_, rfl⟩
      rw [ex] at hst hl
      obtain ⟨d16, ed16⟩ : ∃ q, d + 16 = q := ⟨_, rfl⟩
      rw [ed16] at e16 hl
      have HLD := Lib.hid hl
      have HST := Lib.hid hst
      have hki : (k : Int) < 16 := by omega
      have hk1 : IntKind.i64.wrap ((k : Int) + 1) = ((k + 1 : Nat) : Int) := by rw [IntKind.wrap_i64]; omega
      have hms : 16 - (k + 1) < 16 - k := by omega
      have hk16 : k < 16 := h1
      have hcell : ∀ V, wr.grownBy V none → V.cell? ⟨w.heap.size, 0, none⟩ = some wv ∧ V.cell? ⟨w.heap.size, 1, none⟩ = some pv := fun V hg => by
        obtain ⟨c0, c1, _, _⟩ := tx_cells (HB.out _ (grown_trans hgr hg))
        exact ⟨c0, c1⟩
      have HCELL := Lib.hid hcell
      have HG : wr.grownBy wr.drew none := grown_drew (grown_refl _ _)
      obtain ⟨c0, c1⟩ := hcell _ HG
      clear hcell
      clear hst hlt ed ex ed16 hl h1 HR
      by_cases hp1 : 1 < p
      · have hpi : (1 : Int) < (p : Int) := by omega
        by_cases hx : x = p
        · have hxi : ((x : Int) == (p : Int)) = true := by rw [hx]; simp
          have hr := HST.out
          rw [if_pos ⟨hp1, hx⟩] at hr
          have HRR := Lib.hid hr
          clear hr hx hp1
          go_wp2
          refine wp_region_held_drew (S := (fun V => V.cell? ⟨w.heap.size, 0, none⟩ = some wv ∧ V.cell? ⟨w.heap.size, 1, none⟩ = some pv)) (by kernel_rfl) (HCELL.out _ HG) (fun hHeld => ?_)
          refine held_yes 0 10 (v := ?_) rfl rfl (by kernel_rfl) (by kernel_rfl) (by kernel_rfl) (fun _ _ _ h => h) (by kernel_rfl) ?hy0 hHeld ?hr0
          case hy0 => (intro w hSw; (try dsimp only at hSw); go_simp; try (with_reducible rfl))
          case hr0 =>
          simp only [Act.put, List.setIfInBounds_toArray, List.set_cons_zero, List.set_cons_succ]
          refine held_yes 1 11 (v := ?_) rfl rfl (by kernel_rfl) (by kernel_rfl) (by kernel_rfl) (fun _ _ _ h => h) (by kernel_rfl) ?hy1 hHeld ?hr1
          case hy1 => (intro w hSw; (try dsimp only at hSw); go_simp; try (with_reducible rfl))
          case hr1 =>
          simp only [Act.put, List.setIfInBounds_toArray, List.set_cons_zero, List.set_cons_succ]
          refine held_yes 2 12 (v := ?_) rfl rfl (by kernel_rfl) (by kernel_rfl) (by kernel_rfl) (fun _ _ _ h => h) (by kernel_rfl) ?hy2 hHeld ?hr2
          case hy2 => (intro w hSw; (try dsimp only at hSw); go_simp; try (with_reducible rfl))
          case hr2 =>
          simp only [Act.put, List.setIfInBounds_toArray, List.set_cons_zero, List.set_cons_succ]
          refine held_yes 3 13 (v := ?_) rfl rfl (by kernel_rfl) (by kernel_rfl) (by kernel_rfl) (fun _ _ _ h => h) (by kernel_rfl) ?hy3 hHeld ?hr3
          case hy3 => (intro w hSw; (try dsimp only at hSw); go_simp; try (with_reducible rfl))
          case hr3 =>
          simp only [Act.put, List.setIfInBounds_toArray, List.set_cons_zero, List.set_cons_succ]
          refine held_yes 4 14 (v := ?_) rfl rfl (by kernel_rfl) (by kernel_rfl) (by kernel_rfl) (fun _ _ _ h => h) (by kernel_rfl) ?hy4 hHeld ?hr4
          case hy4 => (intro w hSw; (try dsimp only at hSw); go_simp; try (with_reducible rfl))
          case hr4 =>
          simp only [Act.put, List.setIfInBounds_toArray, List.set_cons_zero, List.set_cons_succ]
          refine held_yes 8 18 (v := ?_) rfl rfl (by kernel_rfl) (by kernel_rfl) (by kernel_rfl) (fun _ _ _ h => h) (by kernel_rfl) ?hy8 hHeld ?hr8
          case hy8 => (intro w hSw; (try dsimp only at hSw); go_simp; try (with_reducible rfl))
          case hr8 =>
          simp only [Act.put, List.setIfInBounds_toArray, List.set_cons_zero, List.set_cons_succ]
          refine wpAnyH_ready (rs := [5]) (by kernel_rfl) (by simp) (AllReadyH.cons rfl (fun K hK => ?_) AllReadyH.nil)
          clear hHeld
          go_simp
          (first | (go_at_call 27; (with_reducible refine (hat _).mono ?_); rintro e w2 ⟨rfl, rfl⟩) | (go_at_call 26; (with_reducible refine (HLD.out _ HG).mono ?_); rintro e w3 ⟨rfl, hg3⟩; replace HG := grown_trans HG hg3; obtain ⟨c0, c1⟩ := HCELL.out _ HG))
          refine hK.out _ _ (HCELL.out _ HG) (fun hHeld => ?_)
          clear hK K
          try simp only [Act.put, List.setIfInBounds_toArray, List.set_cons_zero, List.set_cons_succ]
          refine held_yes 6 16 (v := ?_) rfl rfl (by kernel_rfl) (by kernel_rfl) (by kernel_rfl) (fun _ _ _ h => h) (by kernel_rfl) ?hy6 hHeld ?hr6
          case hy6 => (intro w hSw; (try dsimp only at hSw); go_simp; try (with_reducible rfl))
          case hr6 =>
          simp only [Act.put, List.setIfInBounds_toArray, List.set_cons_zero, List.set_cons_succ]
          refine wpAnyH_ready (rs := [7]) (by kernel_rfl) (by simp) (AllReadyH.cons rfl (fun K hK => ?_) AllReadyH.nil)
          clear hHeld
          go_simp
          (first | (go_at_call 27; (with_reducible refine (hat _).mono ?_); rintro e w2 ⟨rfl, rfl⟩) | (go_at_call 26; (with_reducible refine (HLD.out _ HG).mono ?_); rintro e w3 ⟨rfl, hg3⟩; replace HG := grown_trans HG hg3; obtain ⟨c0, c1⟩ := HCELL.out _ HG))
          refine hK.out _ _ (HCELL.out _ HG) (fun hHeld => ?_)
          clear hK K
          try simp only [Act.put, List.setIfInBounds_toArray, List.set_cons_zero, List.set_cons_succ]
          refine held_yes 9 19 (v := ?_) rfl rfl (by kernel_rfl) (by kernel_rfl) (by kernel_rfl) (fun _ _ _ h => h) (by kernel_rfl) ?hy9 hHeld ?hr9
          case hy9 => (intro w hSw; (try dsimp only at hSw); go_simp; try (with_reducible rfl))
          case hr9 =>
          simp only [Act.put, List.setIfInBounds_toArray, List.set_cons_zero, List.set_cons_succ]
          refine held_yes 10 20 (v := ?_) rfl rfl (by kernel_rfl) (by kernel_rfl) (by kernel_rfl) (fun _ _ _ h => h) (by kernel_rfl) ?hy10 hHeld ?hr10
          case hy10 => (intro w hSw; (try dsimp only at hSw); go_simp; try (with_reducible rfl))
          case hr10 =>
          simp only [Act.put, List.setIfInBounds_toArray, List.set_cons_zero, List.set_cons_succ]
          refine wpAnyH_done (by kernel_rfl) ?_ _
          go_wp2
          go_ret
          exact ⟨by rw [← HRR.out]; rfl, grown_trans HG0.out (grown_trans hgr HG)⟩
        · have hxi : ((x : Int) == (p : Int)) = false := by simp; omega
          have hr := HST.out
          rw [if_neg fun e => hx e.2] at hr
          have HRR := Lib.hid hr
          clear hr hx hp1
          go_wp2
          refine wp_region_held_drew (S := (fun V => V.cell? ⟨w.heap.size, 0, none⟩ = some wv ∧ V.cell? ⟨w.heap.size, 1, none⟩ = some pv)) (by kernel_rfl) (HCELL.out _ HG) (fun hHeld => ?_)
          refine held_yes 0 10 (v := ?_) rfl rfl (by kernel_rfl) (by kernel_rfl) (by kernel_rfl) (fun _ _ _ h => h) (by kernel_rfl) ?hy0 hHeld ?hr0
          case hy0 => (intro w hSw; (try dsimp only at hSw); go_simp; try (with_reducible rfl))
          case hr0 =>
          simp only [Act.put, List.setIfInBounds_toArray, List.set_cons_zero, List.set_cons_succ]
          refine held_yes 1 11 (v := ?_) rfl rfl (by kernel_rfl) (by kernel_rfl) (by kernel_rfl) (fun _ _ _ h => h) (by kernel_rfl) ?hy1 hHeld ?hr1
          case hy1 => (intro w hSw; (try dsimp only at hSw); go_simp; try (with_reducible rfl))
          case hr1 =>
          simp only [Act.put, List.setIfInBounds_toArray, List.set_cons_zero, List.set_cons_succ]
          refine held_yes 2 12 (v := ?_) rfl rfl (by kernel_rfl) (by kernel_rfl) (by kernel_rfl) (fun _ _ _ h => h) (by kernel_rfl) ?hy2 hHeld ?hr2
          case hy2 => (intro w hSw; (try dsimp only at hSw); go_simp; try (with_reducible rfl))
          case hr2 =>
          simp only [Act.put, List.setIfInBounds_toArray, List.set_cons_zero, List.set_cons_succ]
          refine held_yes 3 13 (v := ?_) rfl rfl (by kernel_rfl) (by kernel_rfl) (by kernel_rfl) (fun _ _ _ h => h) (by kernel_rfl) ?hy3 hHeld ?hr3
          case hy3 => (intro w hSw; (try dsimp only at hSw); go_simp; try (with_reducible rfl))
          case hr3 =>
          simp only [Act.put, List.setIfInBounds_toArray, List.set_cons_zero, List.set_cons_succ]
          refine held_yes 4 14 (v := ?_) rfl rfl (by kernel_rfl) (by kernel_rfl) (by kernel_rfl) (fun _ _ _ h => h) (by kernel_rfl) ?hy4 hHeld ?hr4
          case hy4 => (intro w hSw; (try dsimp only at hSw); go_simp; try (with_reducible rfl))
          case hr4 =>
          simp only [Act.put, List.setIfInBounds_toArray, List.set_cons_zero, List.set_cons_succ]
          refine held_yes 8 18 (v := ?_) rfl rfl (by kernel_rfl) (by kernel_rfl) (by kernel_rfl) (fun _ _ _ h => h) (by kernel_rfl) ?hy8 hHeld ?hr8
          case hy8 => (intro w hSw; (try dsimp only at hSw); go_simp; try (with_reducible rfl))
          case hr8 =>
          simp only [Act.put, List.setIfInBounds_toArray, List.set_cons_zero, List.set_cons_succ]
          refine wpAnyH_ready (rs := [5]) (by kernel_rfl) (by simp) (AllReadyH.cons rfl (fun K hK => ?_) AllReadyH.nil)
          clear hHeld
          go_simp
          (first | (go_at_call 27; (with_reducible refine (hat _).mono ?_); rintro e w2 ⟨rfl, rfl⟩) | (go_at_call 26; (with_reducible refine (HLD.out _ HG).mono ?_); rintro e w3 ⟨rfl, hg3⟩; replace HG := grown_trans HG hg3; obtain ⟨c0, c1⟩ := HCELL.out _ HG))
          refine hK.out _ _ (HCELL.out _ HG) (fun hHeld => ?_)
          clear hK K
          try simp only [Act.put, List.setIfInBounds_toArray, List.set_cons_zero, List.set_cons_succ]
          refine held_yes 6 16 (v := ?_) rfl rfl (by kernel_rfl) (by kernel_rfl) (by kernel_rfl) (fun _ _ _ h => h) (by kernel_rfl) ?hy6 hHeld ?hr6
          case hy6 => (intro w hSw; (try dsimp only at hSw); go_simp; try (with_reducible rfl))
          case hr6 =>
          simp only [Act.put, List.setIfInBounds_toArray, List.set_cons_zero, List.set_cons_succ]
          refine wpAnyH_ready (rs := [7]) (by kernel_rfl) (by simp) (AllReadyH.cons rfl (fun K hK => ?_) AllReadyH.nil)
          clear hHeld
          go_simp
          (first | (go_at_call 27; (with_reducible refine (hat _).mono ?_); rintro e w2 ⟨rfl, rfl⟩) | (go_at_call 26; (with_reducible refine (HLD.out _ HG).mono ?_); rintro e w3 ⟨rfl, hg3⟩; replace HG := grown_trans HG hg3; obtain ⟨c0, c1⟩ := HCELL.out _ HG))
          refine hK.out _ _ (HCELL.out _ HG) (fun hHeld => ?_)
          clear hK K
          try simp only [Act.put, List.setIfInBounds_toArray, List.set_cons_zero, List.set_cons_succ]
          refine held_yes 9 19 (v := ?_) rfl rfl (by kernel_rfl) (by kernel_rfl) (by kernel_rfl) (fun _ _ _ h => h) (by kernel_rfl) ?hy9 hHeld ?hr9
          case hy9 => (intro w hSw; (try dsimp only at hSw); go_simp; try (with_reducible rfl))
          case hr9 =>
          simp only [Act.put, List.setIfInBounds_toArray, List.set_cons_zero, List.set_cons_succ]
          refine held_yes 10 20 (v := ?_) rfl rfl (by kernel_rfl) (by kernel_rfl) (by kernel_rfl) (fun _ _ _ h => h) (by kernel_rfl) ?hy10 hHeld ?hr10
          case hy10 => (intro w hSw; (try dsimp only at hSw); go_simp; try (with_reducible rfl))
          case hr10 =>
          simp only [Act.put, List.setIfInBounds_toArray, List.set_cons_zero, List.set_cons_succ]
          refine wpAnyH_done (by kernel_rfl) ?_ _
          go_wp2
          go_roundw
          case rel => exact ⟨k + 1, by omega, by go_num, grown_trans hgr HG, HRR⟩
          case measure => simp [intOf]; omega
      · have hr := HST.out
        rw [if_neg fun e => hp1 e.1] at hr
        have HRR := Lib.hid hr
        clear hr
        rcases (by omega : p = 0 ∨ p = 1) with rfl | rfl
        all_goals
          go_wp2
          refine wp_region_held_drew (S := (fun V => V.cell? ⟨w.heap.size, 0, none⟩ = some wv ∧ V.cell? ⟨w.heap.size, 1, none⟩ = some pv)) (by kernel_rfl) (HCELL.out _ HG) (fun hHeld => ?_)
          refine held_yes 0 10 (v := ?_) rfl rfl (by kernel_rfl) (by kernel_rfl) (by kernel_rfl) (fun _ _ _ h => h) (by kernel_rfl) ?hy0 hHeld ?hr0
          case hy0 => (intro w hSw; (try dsimp only at hSw); go_simp; try (with_reducible rfl))
          case hr0 =>
          simp only [Act.put, List.setIfInBounds_toArray, List.set_cons_zero, List.set_cons_succ]
          refine held_yes 1 11 (v := ?_) rfl rfl (by kernel_rfl) (by kernel_rfl) (by kernel_rfl) (fun _ _ _ h => h) (by kernel_rfl) ?hy1 hHeld ?hr1
          case hy1 => (intro w hSw; (try dsimp only at hSw); go_simp; try (with_reducible rfl))
          case hr1 =>
          simp only [Act.put, List.setIfInBounds_toArray, List.set_cons_zero, List.set_cons_succ]
          refine held_yes 2 12 (v := ?_) rfl rfl (by kernel_rfl) (by kernel_rfl) (by kernel_rfl) (fun _ _ _ h => h) (by kernel_rfl) ?hy2 hHeld ?hr2
          case hy2 => (intro w hSw; (try dsimp only at hSw); go_simp; try (with_reducible rfl))
          case hr2 =>
          simp only [Act.put, List.setIfInBounds_toArray, List.set_cons_zero, List.set_cons_succ]
          refine held_skip 3 13 rfl rfl (by kernel_rfl) (by kernel_rfl) (by kernel_rfl) (fun _ _ _ h => h) (by kernel_rfl) hHeld ?_
          simp only [Act.put, List.setIfInBounds_toArray, List.set_cons_zero, List.set_cons_succ]
          refine held_skip 4 14 rfl rfl (by kernel_rfl) (by kernel_rfl) (by kernel_rfl) (fun _ _ _ h => h) (by kernel_rfl) hHeld ?_
          simp only [Act.put, List.setIfInBounds_toArray, List.set_cons_zero, List.set_cons_succ]
          refine held_skip 5 15 rfl rfl (by kernel_rfl) (by kernel_rfl) (by kernel_rfl) (fun _ _ _ h => h) (by kernel_rfl) hHeld ?_
          simp only [Act.put, List.setIfInBounds_toArray, List.set_cons_zero, List.set_cons_succ]
          refine held_skip 6 16 rfl rfl (by kernel_rfl) (by kernel_rfl) (by kernel_rfl) (fun _ _ _ h => h) (by kernel_rfl) hHeld ?_
          simp only [Act.put, List.setIfInBounds_toArray, List.set_cons_zero, List.set_cons_succ]
          refine held_skip 7 17 rfl rfl (by kernel_rfl) (by kernel_rfl) (by kernel_rfl) (fun _ _ _ h => h) (by kernel_rfl) hHeld ?_
          simp only [Act.put, List.setIfInBounds_toArray, List.set_cons_zero, List.set_cons_succ]
          refine held_skip 8 18 rfl rfl (by kernel_rfl) (by kernel_rfl) (by kernel_rfl) (fun _ _ _ h => h) (by kernel_rfl) hHeld ?_
          simp only [Act.put, List.setIfInBounds_toArray, List.set_cons_zero, List.set_cons_succ]
          refine held_skip 9 19 rfl rfl (by kernel_rfl) (by kernel_rfl) (by kernel_rfl) (fun _ _ _ h => h) (by kernel_rfl) hHeld ?_
          simp only [Act.put, List.setIfInBounds_toArray, List.set_cons_zero, List.set_cons_succ]
          refine held_yes 10 20 (v := ?_) rfl rfl (by kernel_rfl) (by kernel_rfl) (by kernel_rfl) (fun _ _ _ h => h) (by kernel_rfl) ?hy10 hHeld ?hr10
          case hy10 => (intro w hSw; (try dsimp only at hSw); go_simp; try (with_reducible rfl))
          case hr10 =>
          simp only [Act.put, List.setIfInBounds_toArray, List.set_cons_zero, List.set_cons_succ]
          refine wpAnyH_done (by kernel_rfl) ?_ _
          go_wp2
          go_roundw
          case rel => exact ⟨k + 1, by omega, by go_num, grown_trans hgr HG, HRR⟩
          case measure => simp [intOf]; omega
    · obtain rfl : k = 16 := by omega
      have hr := HR.out
      clear h1 HR
      go_wp2
      go_ret
      exact ⟨by rw [← hr]; rfl, grown_trans HG0.out hgr⟩
end
end Go.Proofs.Ytkkkgikmeiocaaa
namespace Go.Proofs.Ytkkkgikmeiocaaa
open Go.RowKit
set_option maxRecDepth 100000
def roomN (f : Nat → Nat) (s : ByteArray) : Nat := if ¬ nmOk s then 8 else if stN f s ≠ none then 7 else if plN f s = none then 9 else 0
theorem optD_pos {o : Option Nat} : (0 : Int) ≤ optD o ↔ o ≠ none := by
  cases o with
  | none => simp [optD]
  | some i => simp [optD]
def RD (w : World) (base : Nat) (wv pv : Value) (ws : List Nat) (f : Nat → Nat) (K : Nat) : Prop := 8 * ws.length = 4800 ∧ ∃ l, RTx w base wv pv ws l ∧ l.length ≤ K ∧ txSee ws l = f
section
variable {w w' : World} {f : Nat → Nat} {wv pv : Value} {s : ByteArray} {base K : Nat} {ws : List Nat}
theorem RD.later (h : RD w base wv pv ws f K) (hg : w.grownBy w' none) : RD w' base wv pv ws f K := by
  obtain ⟨h0, l, h1, h2, h3⟩ := h
  exact ⟨h0, l, h1.later hg, h2, h3⟩
theorem RD.lds (h : RD w base wv pv ws f K) (hK : K ≤ 1000000) : RLd w (.agg #[wv, pv]) f := by
  obtain ⟨h0, l, h1, h2, rfl⟩ := h
  exact fun V x hg hx => rtxload_any (h1.later hg) (by omega) (by omega) x hx
theorem RD.form (h : RD w base wv pv ws f K) : (∃ a n c, wv = .slice a n c) ∧ ∃ a n c, pv = .slice a n c := by
  obtain ⟨h0, l, h1, h2, rfl⟩ := h
  obtain ⟨wa, wc, wg, hwv, _, _⟩ := OwnW.addr h1.words
  obtain ⟨pa, pc, pg, hpv, _, _⟩ := h1.puts.addr
  exact ⟨⟨_, _, _, hwv⟩, ⟨_, _, _, hpv⟩⟩
theorem rd_store (h : RD w base wv pv ws f K) (hbase : base ≤ w.heap.size) (hK : K ≤ 1000000) {x v : Nat} (h8 : x % 8 = 0) (hx : x < 4800) :
    Calls Try.prog 41 #[.agg #[wv, pv], .int .u64 x, .int .u64 v] w fun e w' => ∃ pv', e = .returned (.agg #[wv, pv']) ∧ RD w' base wv pv' ws (fun q => if q = x then v else f q) (K + 1) ∧ w.grownBy w' none := by
  obtain ⟨h0, l, h1, h2, rfl⟩ := h
  refine (rtxstore_any h1 hbase (by omega) (by omega) x v (by omega)).mono ?_
  rintro e w' ⟨pv', rfl, h3, hg⟩
  refine ⟨pv', rfl, ⟨h0, _, h3, Nat.le_trans (txStore_len _ _ _ _) (by omega), ?_⟩, hg⟩
  funext q
  exact see_stored ⟨h8, by omega⟩ q
theorem rroom13 (hld : RLd w (.agg #[wv, pv]) f) (hs : s.size ≤ maxLen) :
    Calls Try.prog 13 #[.agg #[wv, pv], .string s] w fun e w' => e = .returned (.int .i64 (roomN f s : Nat)) ∧ w.grownBy w' none := by
  have hpk := fun V => rpack13 s hs V
  have hst := fun (V : World) (hg : w.grownBy V none) => rstands13 (hld.later hg) hs
  have hpl := fun (V : World) (hg : w.grownBy V none) => rplace13 (hld.later hg) hs
  have hbx : ∀ V, (w.alloc (.cells #[wv, pv] 28)).grownBy V none → V.heap[w.heap.size]? = some (.cells #[wv, pv] 28 (0, 0)) := fun V hg => tx_one hg
  have hg0 := World.grownBy_alloc w (.cells #[wv, pv] 28) none
  have hst0 : stN f s ≠ none → nmOk s := fun h => by
    unfold stN at h
    by_cases hk : nmOk s
    · exact hk
    · rw [if_neg hk] at h; exact absurd rfl h
  unfold roomN
  obtain ⟨lo, elo⟩ : ∃ x, loD s = x := ⟨_, rfl⟩
  obtain ⟨hi, ehi⟩ : ∃ x, hiD s = x := ⟨_, rfl⟩
  rw [elo, ehi] at hpk
  obtain ⟨a, ea⟩ : ∃ x, stN f s = x := ⟨_, rfl⟩
  obtain ⟨b, eb⟩ : ∃ x, plN f s = x := ⟨_, rfl⟩
  rw [ea] at hst ⊢
  rw [eb] at hpl ⊢
  have p1 := optD_pos (o := a)
  have p2 := optD_pos (o := b)
  obtain ⟨ia, eia⟩ : ∃ x, optD a = x := ⟨_, rfl⟩
  obtain ⟨ib, eib⟩ : ∃ x, optD b = x := ⟨_, rfl⟩
  rw [eia] at hst p1
  rw [eib] at hpl p2
  have HB := Lib.hid hbx
  have HST := Lib.hid hst
  have HPL := Lib.hid hpl
  clear hld elo ehi ea eb eia eib hbx hst hpl hst0
  by_cases hok : nmOk s
  · rw [if_neg (not_not_intro hok)]
    simp only [decide_eq_true hok] at hpk
    by_cases ha : a ≠ none
    · rw [if_pos ha]
      have i1 : (0 : Int) ≤ ia := p1.2 ha
      clear p1 p2 ha hok
      go_enter Try.func13, Try.ntmps13
      go_wp2_with (first
        | (go_at_call 29; (with_reducible refine (hpk _).mono ?_); rintro e w1 ⟨rfl, hg1⟩; have ga := grown_trans hg1 (World.grownBy_alloc w1 (.cells #[.int .u64 (lo : Nat), .int .u64 (hi : Nat)] 63) none); obtain ⟨c0, c1, _, _⟩ := tx_cells (HB.out _ ga))
        | (go_at_call 25; (with_reducible refine (HST.out _ (grown_trans hg0 ga)).mono ?_); rintro e w2 ⟨rfl, hg2⟩; have g2 := grown_trans ga hg2))
      go_ret
      exact ⟨rfl, grown_trans hg0 g2⟩
    · rw [if_neg ha]
      have i1 : ¬ (0 : Int) ≤ ia := fun h => ha (p1.1 h)
      by_cases hb : b = none
      · rw [if_pos hb]
        have i2 : ib < 0 := by
          rcases Int.lt_or_le ib 0 with h | h
          · exact h
          · exact absurd hb (p2.1 h)
        clear p1 p2 ha hb hok
        go_enter Try.func13, Try.ntmps13
        go_wp2_with (first
          | (go_at_call 29; (with_reducible refine (hpk _).mono ?_); rintro e w1 ⟨rfl, hg1⟩; have ga := grown_trans hg1 (World.grownBy_alloc w1 (.cells #[.int .u64 (lo : Nat), .int .u64 (hi : Nat)] 63) none); obtain ⟨c0, c1, _, _⟩ := tx_cells (HB.out _ ga))
          | (go_at_call 25; (with_reducible refine (HST.out _ (grown_trans hg0 ga)).mono ?_); rintro e w2 ⟨rfl, hg2⟩; have g2 := grown_trans ga hg2; obtain ⟨c0, c1, _, _⟩ := tx_cells (HB.out _ g2))
          | (go_at_call 30; (with_reducible refine (HPL.out _ (grown_trans hg0 g2)).mono ?_); rintro e w3 ⟨rfl, hg3⟩))
        go_ret
        exact ⟨rfl, grown_trans hg0 (grown_trans g2 hg3)⟩
      · rw [if_neg hb]
        have i2 : ¬ ib < 0 := by have := p2.2 hb; omega
        clear p1 p2 ha hb hok
        go_enter Try.func13, Try.ntmps13
        go_wp2_with (first
          | (go_at_call 29; (with_reducible refine (hpk _).mono ?_); rintro e w1 ⟨rfl, hg1⟩; have ga := grown_trans hg1 (World.grownBy_alloc w1 (.cells #[.int .u64 (lo : Nat), .int .u64 (hi : Nat)] 63) none); obtain ⟨c0, c1, _, _⟩ := tx_cells (HB.out _ ga))
          | (go_at_call 25; (with_reducible refine (HST.out _ (grown_trans hg0 ga)).mono ?_); rintro e w2 ⟨rfl, hg2⟩; have g2 := grown_trans ga hg2; obtain ⟨c0, c1, _, _⟩ := tx_cells (HB.out _ g2))
          | (go_at_call 30; (with_reducible refine (HPL.out _ (grown_trans hg0 g2)).mono ?_); rintro e w3 ⟨rfl, hg3⟩))
        go_ret
        exact ⟨rfl, grown_trans hg0 (grown_trans g2 hg3)⟩
  · rw [if_pos hok]
    simp only [decide_eq_false hok] at hpk
    clear p1 p2 hok
    go_enter Try.func13, Try.ntmps13
    go_wp2_with (first
      | (go_at_call 29; (with_reducible refine (hpk _).mono ?_); rintro e w1 ⟨rfl, hg1⟩; have ga := grown_trans hg1 (World.grownBy_alloc w1 (.cells #[.int .u64 (lo : Nat), .int .u64 (hi : Nat)] 63) none)))
    go_ret
    exact ⟨rfl, grown_trans hg0 ga⟩
def fndN (f : Nat → Nat) (s : ByteArray) : Nat := match stN f s with | some i => f (dAt i + 16) | none => 0
set_option maxHeartbeats 2000000 in
theorem rfind13 (hld : RLd w (.agg #[wv, pv]) f) (hs : s.size ≤ maxLen) :
    Calls Try.prog 11 #[.agg #[wv, pv], .string s] w fun e w' => e = .returned (.tuple #[.int .u64 (fndN f s : Nat), .bool (stN f s).isSome]) ∧ w.grownBy w' none := by
  have hg0 := World.grownBy_alloc w (.cells #[wv, pv] 28) none
  have hbx : ∀ V, (w.alloc (.cells #[wv, pv] 28)).grownBy V none → V.heap[w.heap.size]? = some (.cells #[wv, pv] 28 (0, 0)) := fun V hg => tx_one hg
  have hst := rstands13 (hld.later hg0) hs
  have HB := Lib.hid hbx
  unfold fndN
  cases e : stN f s with
  | none =>
    rw [e] at hst
    have hst' : Calls Try.prog 25 #[.agg #[wv, pv], .string s] (w.alloc (.cells #[wv, pv] 28)) fun e w' => e = .returned (.int .i64 (-1)) ∧ _ := hst
    clear hst e hld
    go_enter Try.func11, Try.ntmps11
    go_wp2_with (first | (go_at_call 25; (with_reducible refine hst'.mono ?_); rintro e w2 ⟨rfl, hg2⟩))
    go_ret2
    exact ⟨rfl, grown_trans hg0 hg2⟩
  | some i =>
    have hi : i < 16 := by
      unfold stN at e
      split at e
      · obtain ⟨m, _, _, _, h4, _⟩ := stF_some e
        exact h4.1
      · cases e
    rw [e] at hst
    have hst' : Calls Try.prog 25 #[.agg #[wv, pv], .string s] (w.alloc (.cells #[wv, pv] 28)) fun e w' => e = .returned (.int .i64 (i : Nat)) ∧ _ := hst
    have hat := fun V => rat13_any i (by omega) V
    dsimp only
    obtain ⟨d, ed⟩ : ∃ d, dAt i = d := ⟨_, rfl⟩
    have hd : d + 16 < 4000 := by rw [← ed]; unfold dAt; omega
    rw [ed] at hat ⊢
    have e16 : IntKind.u64.wrap ((d : Int) + 16) = ((d + 16 : Nat) : Int) := by rw [IntKind.wrap_u64]; omega
    have hl := fun V (hg : w.grownBy V none) => hld V (d + 16) hg (by omega)
    obtain ⟨x, ex⟩ : ∃ x, f (d + 16) = x := ⟨_, rfl⟩
    rw [ex] at hl ⊢
    obtain ⟨d16, ed16⟩ : ∃ q, d + 16 = q := ⟨_, rfl⟩
    rw [ed16] at e16 hl
    have HL := Lib.hid hl
    have i0 : ¬ (i : Int) < 0 := by omega
    clear hst e hld hl ed ex ed16 hd hi
    go_enter Try.func11, Try.ntmps11
    go_wp2_with (first | (go_at_call 25; (with_reducible refine hst'.mono ?_); rintro e w2 ⟨rfl, hg2⟩))
    have hcell : ∀ V, w2.grownBy V none → V.cell? ⟨w.heap.size, 0, none⟩ = some wv ∧ V.cell? ⟨w.heap.size, 1, none⟩ = some pv := fun V hg => by
      obtain ⟨c0, c1, _, _⟩ := tx_cells (HB.out V (grown_trans hg2 hg))
      exact ⟨c0, c1⟩
    have HCELL := Lib.hid hcell
    have HG : w2.grownBy w2.drew none := grown_drew (grown_refl _ _)
    have g2 := grown_trans hg0 hg2
    obtain ⟨c0, c1⟩ := hcell _ HG
    clear hcell
    go_region_held3 (fun V => V.cell? ⟨w.heap.size, 0, none⟩ = some wv ∧ V.cell? ⟨w.heap.size, 1, none⟩ = some pv) (exact HCELL.out _ HG) (first
      | (go_at_call 27; (with_reducible refine (hat _).mono ?_); rintro e w3 ⟨rfl, rfl⟩)
      | (go_at_call 26; (with_reducible refine (HL.out _ (grown_trans g2 HG)).mono ?_); rintro e w3 ⟨rfl, hg3⟩; replace HG := grown_trans HG hg3))
    go_wp2
    go_ret2
    exact ⟨rfl, grown_trans g2 HG⟩
end
end Go.Proofs.Ytkkkgikmeiocaaa
