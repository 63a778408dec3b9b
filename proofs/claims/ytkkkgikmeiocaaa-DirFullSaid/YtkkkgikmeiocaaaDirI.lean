/-
  Texts of one layer, one behind the other: memory, contracts of the functions, and what follows of them.
  Conditions: as each theorem says.
-/
import Derived.Test.YtkkkgikmeiocaaaLDia
import Derived.Test.YtkkkgikmeiocaaaLTxc
import Derived.Test.YtkkkgikmeiocaaaLTxa
import Derived.Deep.RegionHeld3
set_option linter.unusedVariables false
set_option linter.unusedSimpArgs false
namespace Go.Proofs.Ytkkkgikmeiocaaa
open Go.RowKit Go.Shelf
set_option maxRecDepth 100000
attribute [local go_sem] Oper.semAt_some
section
variable {w w' : World} {b : Nat} {x y z p x' y' z' p' : Value} {t : TypeId}
theorem four_cells (h : w.heap[b]? = some (.cells #[x, y, z, p] t (0, 0))) : w.cell? ⟨b, 0, none⟩ = some x ∧ w.cell? ⟨b, 1, none⟩ = some y ∧ w.cell? ⟨b, 2, none⟩ = some z ∧ w.cell? ⟨b, 3, none⟩ = some p :=
  ⟨by simp [World.cell?, h], by simp [World.cell?, h], by simp [World.cell?, h], by simp [World.cell?, h]⟩
theorem four_frozen (h : w.heap[b]? = some (.cells #[x, y, z, p] t (0, 0))) : w.frozen? ⟨b, 0, none⟩ = false ∧ w.frozen? ⟨b, 1, none⟩ = false ∧ w.frozen? ⟨b, 2, none⟩ = false ∧ w.frozen? ⟨b, 3, none⟩ = false :=
  ⟨by simp [World.frozen?, h], by simp [World.frozen?, h], by simp [World.frozen?, h], by simp [World.frozen?, h]⟩
theorem four_first (hg : (w.alloc (.cells #[x, y, z, p] t)).grownBy w' none) : w'.heap[w.heap.size]? = some (.cells #[x, y, z, p] t (0, 0)) := by
  have h1 : (w.alloc (.cells #[x, y, z, p] t)).heap[w.heap.size]? = some (.cells #[x, y, z, p] t (0, 0)) := heap_alloc_new' _ _
  exact (hg.block _ (lt_of_block h1) (by simp)).trans h1
theorem four_put (h : w.heap[b]? = some (.cells #[x, y, z, p] t (0, 0))) : ((((w.setCell ⟨b, 0, none⟩ x').setCell ⟨b, 1, none⟩ y').setCell ⟨b, 2, none⟩ z').setCell ⟨b, 3, none⟩ p').heap[b]? = some (.cells #[x', y', z', p'] t (0, 0)) := by
  rw [heap_setCell_same (heap_setCell_same (heap_setCell_same (heap_setCell_same h x') y') z') p']; rfl
theorem four_set : w.grownBy ((((w.setCell ⟨b, 0, none⟩ x').setCell ⟨b, 1, none⟩ y').setCell ⟨b, 2, none⟩ z').setCell ⟨b, 3, none⟩ p') (some b) := grown_trans (grown_set _ _ _ _) (grown_trans (grown_set _ _ _ _) (grown_trans (grown_set _ _ _ _) (grown_set _ _ _ _)))
end
def TLd (w : World) (p : Option Addr) (f : Nat → Nat) : Prop := ∀ V x, w.grownBy V none → x < 18446744073709551616 → Calls Try.prog 63 #[.pointer p, .int .u64 (x : Nat)] V fun e w' => e = .returned (.int .u64 (f x : Nat)) ∧ V.grownBy w' none
theorem TLd.later {w w' : World} {p : Option Addr} {f : Nat → Nat} (h : TLd w p f) (hg : w.grownBy w' none) : TLd w' p f := fun V x hV hx => h V x (grown_trans hg hV) hx
theorem tld_nil (w : World) : TLd w none (fun _ => 0) := fun V x hV hx => (txload_nil x V).mono fun e V' ⟨h1, h2⟩ => ⟨h1, h2 ▸ grown_refl _ _⟩
theorem tld_any {w : World} {T M : Nat} {R : Option Nat} {B D : Nat} {ws : List Nat} {l : List (Nat × Nat)} (h : Thinks w T M R B D ws l) : TLd w (some ⟨T, 0, none⟩) (txSee ws l) := fun V x hg hx => txload_any (h.later hg) x hx
def slV (f : Nat → Nat) (i : Nat) : Value := .agg #[.int .u64 (dAt i : Nat), .int .u64 (f (dAt i) : Nat), .int .u64 (f (dAt i + 8) : Nat), .int .u64 (f (dAt i + 16) : Nat)]
theorem cstands_any (q : Nat) (w : World) : Calls Try.prog 32 #[.int .u64 (q : Nat)] w fun e w' => e = .returned (.bool (decide (1 < q))) ∧ w = w' := by
  rcases (show q = 0 ∨ q = 1 ∨ 1 < q by omega) with rfl | rfl | h
  · go_enter Try.func32, Try.ntmps32
    go_wp2
    go_ret
    exact ⟨rfl, rfl⟩
  · go_enter Try.func32, Try.ntmps32
    go_wp2
    go_ret
    exact ⟨rfl, rfl⟩
  · rw [decide_eq_true h]
    have h0 : ((q : Int) == 0) = false := by simp; omega
    have h1 : ((q : Int) == 1) = false := by simp; omega
    have h2 : ((q : Int) != 0) = true := by simp; omega
    have h3 : ((q : Int) != 1) = true := by simp; omega
    go_enter Try.func32, Try.ntmps32
    go_wp2
    go_ret
    exact ⟨rfl, rfl⟩
set_option maxHeartbeats 2000000 in
theorem dread_any {w : World} {p : Option Addr} {f : Nat → Nat} (hld : TLd w p f) {i : Nat} (hi : i < 16) :
    Calls Try.prog 47 #[.pointer p, .int .u64 (i : Nat)] w fun e w' => e = .returned (slV f i) ∧ w.grownBy w' none := by
  have hd : dAt i + 16 < 4000 := by unfold dAt; omega
  have e2 : IntKind.u64.wrap (24 * (i : Int)) = ((24 * i : Nat) : Int) := by rw [IntKind.wrap_u64]; omega
  have e3 : IntKind.u64.wrap (3392 + ((24 * i : Nat) : Int)) = ((dAt i : Nat) : Int) := by rw [IntKind.wrap_u64]; unfold dAt; omega
  unfold slV
  obtain ⟨d, ed⟩ : ∃ d, dAt i = d := ⟨_, rfl⟩
  obtain ⟨k, ek⟩ : ∃ k, 24 * i = k := ⟨_, rfl⟩
  rw [ed] at e3 hd ⊢
  rw [ek] at e2 e3
  have e8 : IntKind.u64.wrap ((d : Int) + 8) = ((d + 8 : Nat) : Int) := by rw [IntKind.wrap_u64]; omega
  have e16 : IntKind.u64.wrap ((d : Int) + 16) = ((d + 16 : Nat) : Int) := by rw [IntKind.wrap_u64]; omega
  have h0 := fun V (hg : w.grownBy V none) => hld V d hg (by omega)
  have h8 := fun V (hg : w.grownBy V none) => hld V (d + 8) hg (by omega)
  have h16 := fun V (hg : w.grownBy V none) => hld V (d + 16) hg (by omega)
  obtain ⟨a, ea⟩ : ∃ a, f d = a := ⟨_, rfl⟩
  obtain ⟨b, eb⟩ : ∃ a, f (d + 8) = a := ⟨_, rfl⟩
  obtain ⟨c, ec⟩ : ∃ a, f (d + 16) = a := ⟨_, rfl⟩
  rw [ea, eb, ec]
  simp only [ea] at h0
  simp only [eb] at h8
  simp only [ec] at h16
  obtain ⟨d8, ed8⟩ : ∃ q, d + 8 = q := ⟨_, rfl⟩
  obtain ⟨d16, ed16⟩ : ∃ q, d + 16 = q := ⟨_, rfl⟩
  rw [ed8] at e8 h8
  rw [ed16] at e16 h16
  have H0 := Lib.hid h0
  have H8 := Lib.hid h8
  have H16 := Lib.hid h16
  have hg0 : w.grownBy (w.alloc (.cells #[.int .u64 0, .int .u64 0, .int .u64 0, .int .u64 0] 65)) none := World.grownBy_alloc _ _ _
  have hbx : ∀ V, (w.alloc (.cells #[.int .u64 0, .int .u64 0, .int .u64 0, .int .u64 0] 65)).grownBy V none → V.heap[w.heap.size]? = some (.cells #[.int .u64 0, .int .u64 0, .int .u64 0, .int .u64 0] 65 (0, 0)) := fun V hg => four_first hg
  have HB := Lib.hid hbx
  clear ea eb ec ed8 ed16 ed ek hd hld h0 h8 h16 hi hbx
  go_enter Try.func47, Try.ntmps47
  go_wp2_with (first
    | (go_at_call 63; (with_reducible refine (H0.out _ hg0).mono ?_); rintro e w1 ⟨rfl, hg1⟩; have g1 := grown_trans hg0 hg1)
    | (go_at_call 63; (with_reducible refine (H8.out _ g1).mono ?_); rintro e w2 ⟨rfl, hg2⟩; have g2 := grown_trans g1 hg2)
    | (go_at_call 63; (with_reducible refine (H16.out _ g2).mono ?_); rintro e w3 ⟨rfl, hg3⟩; have g3 := grown_trans g2 hg3; have h4 := HB.out _ (grown_trans hg1 (grown_trans hg2 hg3)); obtain ⟨x0, x1, x2, x3⟩ := four_cells h4; obtain ⟨z0, z1, z2, z3⟩ := four_frozen h4))
  obtain ⟨k0, k1, k2, k3⟩ := four_cells (four_put h4 (x' := .int .u64 d) (y' := .int .u64 a) (z' := .int .u64 b) (p' := .int .u64 c))
  refine bodyPost_ret (v := .agg #[.int .u64 d, .int .u64 a, .int .u64 b, .int .u64 c]) (by simp [results, Try.results47, go_sem, k0, k1, k2, k3]) rfl ?_
  exact ⟨rfl, grown_new (grown_trans (grown_any g3 _) four_set) (Nat.le_refl _)⟩
def RdK (n tb : Nat) (p q : Value) (A C : World) : Prop := Below n A C ∧ (Boxed A tb 25 p → Boxed C tb 25 p) ∧ (Boxed A (tb + 1) 31 q → Boxed C (tb + 1) 31 q)
section
variable {n tb : Nat} {p q : Value} {A C E w0 : World}
theorem RdK.refl (n tb : Nat) (p q : Value) (A : World) : RdK n tb p q A A := ⟨Below.refl _ _, id, id⟩
theorem RdK.trans (h : RdK n tb p q A C) (k : RdK n tb p q C E) : RdK n tb p q A E := ⟨h.1.trans k.1, fun b => k.2.1 (h.2.1 b), fun b => k.2.2 (h.2.2 b)⟩
theorem RdK.put (hn : n ≤ w0.heap.size) (hb : tb + 1 < w0.heap.size) (W : World) (l : Nat) (o o' : Obj) (hl : w0.heap.size ≤ l) (h : W.heap[l]? = some o) (hc : o.isCells = false) (hw : o.isWalk = false) : RdK n tb p q W (W.putObj l o') :=
  ⟨belowK_b (w := w0) hn W l o o' hl h hc hw, fun b => by
    unfold Boxed at b ⊢
    rw [World.putObj_heap_other (by omega)]
    exact b, fun b => by
    unfold Boxed at b ⊢
    rw [World.putObj_heap_other (by omega)]
    exact b⟩
theorem RdK.grown {row : Option Nat} (hn : n ≤ A.heap.size) (hg : A.grownBy C row) (hr : ∀ r, row = some r → n ≤ r ∧ r ≠ tb ∧ r ≠ tb + 1) : RdK n tb p q A C :=
  ⟨(Below.refl n A).grown hg hn (fun k e => (hr k e).1), fun b => b.kept hg (fun e => (hr tb e.symm).2.1 rfl), fun b => b.kept hg (fun e => (hr (tb + 1) e.symm).2.2 rfl)⟩
end
theorem cround_any (p : Option Addr) (n : Nat) (w : World) : Calls Try.prog 31 #[.pointer p, .int .u64 n] w fun e w' => e = .returned (.func (.func 46) #[] #[.pointer (some ⟨w.heap.size, 0, none⟩), .pointer (some ⟨w.heap.size + 1, 0, none⟩)]) ∧ (w.alloc (.cells #[.pointer p] 25)).alloc (.cells #[.int .u64 n] 31) = w' := by
  go_enter Try.func31, Try.ntmps31
  go_wp2
  go_ret
  exact ⟨rfl, rfl⟩
theorem cway_any (p : Option Addr) (s : ByteArray) (hs : s.size ≤ maxLen) (w : World) : Calls Try.prog 42 #[.pointer p, .string s] w fun e w' => e = .returned (.func (.func 46) #[] #[.pointer (some ⟨w.heap.size, 0, none⟩), .pointer (some ⟨w.heap.size + 1, 0, none⟩)]) ∧ (w.alloc (.cells #[.pointer p] 25)).alloc (.cells #[.int .u64 (hN s : Nat)] 31) = w' := by
  have hh : ∀ V, Calls Try.prog 61 #[.string s] V fun e w' => e = .returned (.int .u64 (hN s : Nat)) ∧ V = w' := fun V => by
    have := hash_any s (by unfold maxLen at hs; omega) V
    rwa [(hN_is s).1] at this
  have hr := fun V => cround_any p (hN s) V
  obtain ⟨n, en⟩ : ∃ n, hN s = n := ⟨_, rfl⟩
  simp only [en] at hh hr ⊢
  clear en
  go_enter Try.func42, Try.ntmps42
  go_wp2_with (first | (go_at_call 61; (with_reducible refine (hh _).mono ?_); rintro e w1 ⟨rfl, rfl⟩) | (go_at_call 31; (with_reducible refine (hr _).mono ?_); rintro e w1 ⟨rfl, rfl⟩))
  go_ret
  exact ⟨rfl, rfl⟩
set_option maxHeartbeats 2000000 in
theorem cround_stops {w w0 : World} {tb n : Nat} {p : Option Addr} {f : Nat → Nat} (hld : TLd w p f) (hn : n < 18446744073709551616)
    (hw0 : Below w.heap.size w w0) (hbx : Boxed w0 tb 25 (.pointer p)) (hbn : Boxed w0 (tb + 1) 31 (.int .u64 n)) :
    SeqStopsK Fence.wide 5 Try.prog 46 #[.pointer (some ⟨tb, 0, none⟩), .pointer (some ⟨tb + 1, 0, none⟩)] (fun x : Nat => #[slV f ((n % 16 + x) % 16)]) (RdK w.heap.size tb (.pointer p) (.int .u64 n)) (fun ys => ys = List.range 16) (fun pre => ∃ k, k < 16 ∧ pre = List.range (k + 1)) 16 w0 := by
  intro yl J Jx W hW hJ hJx hY h0
  show CallsIn Fence.wide 5 Try.prog 46 #[.func (.yield yl) #[] #[], .pointer (some ⟨tb, 0, none⟩), .pointer (some ⟨tb + 1, 0, none⟩)] W _
  have hbW : Boxed W tb 25 (.pointer p) := (hW.block tb hbx.lt).trans hbx
  have hnW : Boxed W (tb + 1) 31 (.int .u64 n) := (hW.block (tb + 1) hbn.lt).trans hbn
  have hBW : Below w.heap.size w W := hw0.grown (below_grown hW) hw0.size (fun k e => by cases e)
  have HJ := Lib.hid hJ
  have HY := Lib.hid hY
  have HLD := Lib.hid hld
  have hsz := hBW.size
  clear hY hJ hJx hld
  refine callsIn_of_wp Try.func46 rfl trivial ?_ rfl
  simp only [Try.ntmps46, List.size_toArray, List.length_cons, List.length_nil, Nat.reduceAdd, Nat.reduceSub, Array.replicate_succ, Array.replicate_zero, List.push_toArray, List.append_toArray, List.nil_append, List.cons_append]
  gi_wp2
  gi_loopw [5] (fun i wr => ∃ k : Nat, k ≤ 16 ∧ i = .int .u64 k ∧ J (List.range k) wr ∧ Below w.heap.size w wr ∧ W.heap.size ≤ wr.heap.size ∧ Boxed wr tb 25 (.pointer p) ∧ Boxed wr (tb + 1) 31 (.int .u64 n)) (fun i _ => 16 - (intOf i).toNat)
  case atStart => exact ⟨0, Nat.zero_le _, rfl, h0, hBW, Nat.le_refl _, hbW, hnW⟩
  case round =>
    obtain ⟨k, hk, rfl, hJk, hB, hsW, hb, hbq⟩ := hrel
    clear h0
    by_cases h1 : k < 16
    · obtain ⟨m, em⟩ : ∃ m, (n + k) % 18446744073709551616 = m := ⟨_, rfl⟩
      obtain ⟨j, ej⟩ : ∃ j, (n % 16 + k) % 16 = j := ⟨_, rfl⟩
      have hj : j < 16 := by omega
      have a1 : IntKind.u64.wrap ((n : Int) + (k : Int)) = (m : Int) := by rw [IntKind.wrap_u64]; omega
      have a2 : (m : Int) % 16 = (j : Int) := by omega
      have a2' : (m : Int).tmod 16 = (j : Int) := by rw [Int.tmod_eq_emod_of_nonneg (by omega)]; omega
      have a3 : IntKind.u64.wrap (j : Int) = (j : Int) := by rw [IntKind.wrap_u64]; omega
      have hs := (callsIn_wide (n := 4)).2 (dread_any (HLD.out.later (below_grown hB)) hj)
      have cb := hb.cell
      have cq := hbq.cell
      have HJk := Lib.hid hJk
      have h16 : (k : Int) < 16 := by omega
      have hyk : ∀ W2, J (List.range k) W2 → YieldAt Fence.wide 4 Try.prog yl #[slV f j] W2 _ := fun W2 h2 => by
        have := HY.out (List.range k) k W2 h2 (by simpa using h1)
        simp only [ej] at this
        rw [← List.range_succ] at this
        exact this
      have HYK := Lib.hid hyk
      clear hJk hyk em ej hj
      gi_wp2_with (refine ⟨trivial, ?_⟩; gi_at_call 47; (with_reducible refine hs.mono ?_); rintro e w2 ⟨rfl, hg2⟩; have hJ2 := HJ.out _ _ _ _ HJk.out hg2 (fun r e => by cases e); obtain ⟨fn, tmps, assign, body, hyy, hR⟩ := HYK.out w2 hJ2)
      refine hR.mono ?_
      rintro e W3 (⟨rfl, hJ3, hk3⟩ | ⟨rfl, hJx3⟩)
      · have hb3 : Boxed W3 tb 25 (.pointer p) := hk3.2.1 (hb.kept hg2 (by simp))
        have hq3 : Boxed W3 (tb + 1) 31 (.int .u64 n) := hk3.2.2 (hbq.kept hg2 (by simp))
        have hB3 : Below w.heap.size w W3 := (hB.grown hg2 hB.size (fun k e => by cases e)).trans hk3.1
        have hs3 := Nat.le_trans hsW (Nat.le_trans hg2.size hk3.1.size)
        gi_wp2
        go_roundw
        case rel => exact ⟨k + 1, by omega, by go_num, hJ3, hB3, hs3, hb3, hq3⟩
        case measure => simp [intOf]; omega
      · gi_wp2
        refine bodyPost_ret (results_none rfl _ _ _) rfl ?_
        exact ⟨⟨_, rfl⟩, .inr ⟨_, ⟨k, h1, rfl⟩, hJx3⟩⟩
    · obtain rfl : k = 16 := by omega
      gi_wp2
      go_end0
      exact ⟨⟨_, rfl⟩, .inl ⟨_, rfl, hJk⟩⟩
end Go.Proofs.Ytkkkgikmeiocaaa
