/-
  Package ledger: the contract of List of whatever words: the blocks one behind the other, until nobody stands behind one, or as many as there are words.
  Conditions: the Tx stands in memory, over a segment of 600 words.
-/
import Derived.Test.YtmcnpenihoaajaaGreatLClb
namespace Go.Proofs.YtmcnpenihoaajaaGreat
open Go.RowKit Go.Shelf
set_option linter.unusedVariables false
set_option linter.unusedSimpArgs false
set_option maxRecDepth 100000
attribute [local go_sem] Oper.semAt_some

/-- Head and Load tell these blocks, one behind the other, from whatever world on. -/
structure TellsG (w : World) (p : Value) (c : Int) (f : Nat → Nat) (n : Nat) : Prop where
  first : ∀ V, w.grownBy V none → Calls Tryz.prog 168 #[p, .int .i64 c] V fun e V' => e = .returned (.int .u64 (f 0 : Nat)) ∧ V.grownBy V' none
  size : ∀ V, w.grownBy V none → Calls Tryz.prog 118 #[p] V fun e V' => e = .returned (.int .u64 4800) ∧ V = V'
  next : ∀ V k, w.grownBy V none → k < n → Calls Tryz.prog 66 #[p, .int .u64 ((f k + 16) % 18446744073709551616 : Nat)] V fun e V' => e = .returned (.int .u64 (f (k + 1) : Nat)) ∧ V.grownBy V' none
  low : ∀ k, k < n → 0 < f k ∧ f k < 18446744073709551616
  few : n ≤ 600
  fin : n < 600 → f n = 0
set_option maxHeartbeats 2000000 in
/-- The closure of 'blocks': each block of the list. -/
theorem lblocks_stopsG {w w0 : World} {tb n : Nat} {p : Option Addr} {c : Int} {f : Nat → Nat} (ht : TellsG w (.pointer p) c f n)
    (hw0 : Below w.heap.size w w0) (hbx : Boxed w0 tb 66 (.pointer p)) (hcx : Boxed w0 (tb + 1) 3 (.int .i64 c)) :
    SeqStopsK Fence.wide 5 Tryz.prog 204 #[.pointer (some ⟨tb, 0, none⟩), .pointer (some ⟨tb + 1, 0, none⟩)] (fun k : Nat => #[.int .u64 (f k : Nat)]) (LdK w.heap.size tb (.pointer p) (.int .i64 c)) (fun ys => ys = List.range n) (fun _ => True) n w0 := by
  intro yl J Jx W hW hJ hJx hY h0
  show CallsIn Fence.wide 5 Tryz.prog 204 #[.func (.yield yl) #[] #[], .pointer (some ⟨tb, 0, none⟩), .pointer (some ⟨tb + 1, 0, none⟩)] W _
  have hbW : Boxed W tb 66 (.pointer p) := (hW.block tb hbx.lt).trans hbx
  have hcW : Boxed W (tb + 1) 3 (.int .i64 c) := (hW.block (tb + 1) hcx.lt).trans hcx
  have hBW : Below w.heap.size w W := hw0.grown (below_grown hW) hw0.size (fun k e => by cases e)
  have hn600 : n ≤ 600 := ht.few
  have hlow := ht.low
  have hend := ht.fin
  have hHead := (callsIn_wide (n := 4)).2 (ht.first W (below_grown hBW))
  have hNext := fun (V : World) (k : Nat) (hg : w.grownBy V none) (hk : k < n) => (callsIn_wide (n := 4)).2 (ht.next V k hg hk)
  have hSize := fun (V : World) (hg : w.grownBy V none) => (callsIn_wide (n := 4)).2 (ht.size V hg)
  have HJ := Lib.hid hJ
  have HY := Lib.hid hY
  have HN := Lib.hid hNext
  have HLO := Lib.hid hlow
  have hsz := hBW.size
  have cb0 := hbW.cell
  have cc0 := hcW.cell
  clear hY hJ hJx hNext hlow ht
  obtain ⟨x0, hx0⟩ : ∃ x, f 0 = x := ⟨_, rfl⟩
  rw [hx0] at hHead
  refine callsIn_of_wp Tryz.func204 rfl trivial ?_ rfl
  simp only [Tryz.ntmps204, List.size_toArray, List.length_cons, List.length_nil, Nat.reduceAdd, Nat.reduceSub, Array.replicate_succ, Array.replicate_zero, List.push_toArray, List.append_toArray, List.nil_append, List.cons_append]
  gi_wp2_with (first | (refine ⟨trivial, ?_⟩; gi_at_call 168; (with_reducible refine hHead.mono ?_); rintro e w1 ⟨rfl, hg1⟩; have hb1 := hbW.kept hg1 (by simp); have hc1 := hcW.kept hg1 (by simp); have cb1 := hb1.cell; have cc1 := hc1.cell; have hB1 : Below w.heap.size w w1 := hBW.grown hg1 hBW.size (fun k e => by cases e); have hS1 := hSize w1 (below_grown hB1)) | (refine ⟨trivial, ?_⟩; gi_at_call 118; (with_reducible refine hS1.mono ?_); rintro e w2 ⟨rfl, rfl⟩))
  have hJ1 := HJ.out _ _ _ none h0 hg1 (fun r e => by cases e)
  have hs1 := hg1.size
  clear hHead hSize hS1 cb0 cc0 hbW hcW hBW h0 cb1 cc1
  gi_loopw [11, 4] (fun i v wr => ∃ k : Nat, k ≤ n ∧ i = .int .u64 k ∧ v = .int .u64 (f k : Nat) ∧ J (List.range k) wr ∧ Below w.heap.size w wr ∧ W.heap.size ≤ wr.heap.size ∧ Boxed wr tb 66 (.pointer p) ∧ Boxed wr (tb + 1) 3 (.int .i64 c)) (fun i _ _ => 600 - (intOf i).toNat)
  case atStart => exact ⟨0, Nat.zero_le _, rfl, by rw [hx0], hJ1, hB1, hs1, hb1, hc1⟩
  case round =>
    obtain ⟨k, hk, rfl, rfl, hJk, hB, hsW, hb, hcb⟩ := hrel
    clear hJ1 hB1 hb1 hc1
    by_cases h1 : k < n
    · have hk600 : (k : Int) < 600 := by omega
      obtain ⟨hx1, hx2⟩ := HLO.out k h1
      have hN1 := fun (V : World) (hg : w.grownBy V none) => HN.out V k hg h1
      obtain ⟨x, hx⟩ : ∃ x, f k = x := ⟨_, rfl⟩
      obtain ⟨y, hy⟩ : ∃ y, f (k + 1) = y := ⟨_, rfl⟩
      rw [hx] at hx1 hx2 hN1 ⊢
      rw [hy] at hN1
      have hxn : ¬ (x : Int) = 0 := by omega
      have hxe : ((x : Int) == 0) = false := by simp; omega
      have e16 : IntKind.u64.wrap ((x : Int) + 16) = (((x + 16) % 18446744073709551616 : Nat) : Int) := by rw [IntKind.wrap_u64]; omega
      obtain ⟨x16, hx16⟩ : ∃ q, (x + 16) % 18446744073709551616 = q := ⟨_, rfl⟩
      rw [hx16] at hN1 e16
      have HJk := Lib.hid hJk
      obtain ⟨fn, tmps, assign, body, hyy, hR⟩ := HY.out (List.range k) k wr hJk (by simpa using h1)
      rw [← List.range_succ] at hR
      rw [hx] at hyy
      clear hJk
      gi_wp2
      refine hR.mono ?_
      rintro e W3 (⟨rfl, hJ3, hk3⟩ | ⟨rfl, hJx3⟩)
      · have hb3 : Boxed W3 tb 66 (.pointer p) := hk3.2.1 hb
        have hcb3 : Boxed W3 (tb + 1) 3 (.int .i64 c) := hk3.2.2 hcb
        have hB3 : Below w.heap.size w W3 := hB.trans hk3.1
        have hs3 := Nat.le_trans hsW hk3.1.size
        have cb3 := hb3.cell
        have hN3 := hN1 W3 (below_grown hB3)
        gi_wp2_with (refine ⟨trivial, ?_⟩; gi_at_call 66; (with_reducible refine hN3.mono ?_); rintro e w4 ⟨rfl, hg4⟩)
        have hJ4 := HJ.out _ _ _ none hJ3 hg4 (fun r e => by cases e)
        refine ⟨⟨k + 1, by omega, by go_num, by rw [hy], hJ4, hB3.grown hg4 hB3.size (fun k e => by cases e), Nat.le_trans hs3 hg4.size, hb3.kept hg4 (by simp), hcb3.kept hg4 (by simp)⟩, by simp [intOf]; omega⟩
      · gi_wp2
        refine bodyPost_ret (results_none rfl _ _ _) rfl ?_
        exact ⟨⟨_, rfl⟩, .inr ⟨_, trivial, hJx3⟩⟩
    · obtain rfl : k = n := by omega
      by_cases h6 : k < 600
      · have hk600 : (k : Int) < 600 := by omega
        rw [hend h6]
        gi_wp2
        refine ⟨fun _ h => (by cases h), ?_⟩
        gi_wp2
        refine bodyPost_ret (results_none rfl _ _ _) rfl ?_
        exact ⟨⟨_, rfl⟩, .inl ⟨_, rfl, hJk⟩⟩
      · have hk600 : ¬ (k : Int) < 600 := by omega
        gi_wp2
        refine bodyPost_end (results_none rfl _ _ _) rfl ?_
        exact ⟨⟨_, rfl⟩, .inl hJk⟩
set_option maxHeartbeats 2000000 in
theorem list_inG {w : World} {p : Option Addr} {c : Int} {f : Nat → Nat} {n : Nat} (ht : TellsG w (.pointer p) c f n) :
    CallsIn Fence.wide 6 Tryz.prog 126 #[.pointer p, .int .i64 c] w fun e w' => ∃ v, e = .returned v ∧ OwnW w' w.heap.size v ((List.range n).map f) ∧ w.grownBy w' none := by
  obtain ⟨i0, hi, hz0, hz1, hz2⟩ := info_parts info_u64
  have hbh : ∀ V : World, CallsIn Fence.wide 5 Tryz.prog 166 #[.pointer p, .int .i64 c] V _ := fun V => (callsIn_wide (n := 5)).2 (lblocks_any p c V)
  refine callsIn_of_wp_marks Tryz.func126 rfl trivial ?_ rfl
  simp only [Tryz.ntmps126, List.size_toArray, List.length_cons, List.length_nil, Nat.reduceAdd, Nat.reduceSub, Array.replicate_succ, Array.replicate_zero, List.push_toArray, List.append_toArray, List.nil_append, List.cons_append]
  gi_wp2_with (first | (refine ⟨trivial, ?_⟩; gi_at_call 166; (with_reducible refine (hbh _).mono ?_); rintro e w2 ⟨rfl, rfl⟩))
  obtain ⟨A1, hA1⟩ : ∃ A1, w.alloc (.cells #[.slice none 0 0] 34) = A1 := ⟨_, rfl⟩
  have b1 : Boxed A1 w.heap.size 34 (.slice none 0 0) := by rw [← hA1]; exact Boxed.new _ _ _
  have hs1 : A1.heap.size = w.heap.size + 1 := by rw [← hA1]; simp
  have hg1 : w.grownBy A1 none := by rw [← hA1]; exact World.grownBy_alloc _ _ _
  rw [hA1]
  obtain ⟨A2, hA2⟩ : ∃ A2, A1.alloc (.cells #[.pointer p] 66) = A2 := ⟨_, rfl⟩
  have b2 : Boxed A2 (w.heap.size + 1) 66 (.pointer p) := by rw [← hA2, ← hs1]; exact Boxed.new _ _ _
  have hs2 : A2.heap.size = w.heap.size + 2 := by rw [← hA2]; simp [hs1]
  have hg2 : A1.grownBy A2 none := by rw [← hA2]; exact World.grownBy_alloc _ _ _
  rw [hA2]
  obtain ⟨W0, hW0⟩ : ∃ W0, A2.alloc (.cells #[.int .i64 c] 3) = W0 := ⟨_, rfl⟩
  have b3 : Boxed W0 (w.heap.size + 2) 3 (.int .i64 c) := by rw [← hW0, ← hs2]; exact Boxed.new _ _ _
  have hszA : W0.heap.size = w.heap.size + 3 := by rw [← hW0]; simp [hs2]
  have hg3 : A2.grownBy W0 none := by rw [← hW0]; exact World.grownBy_alloc _ _ _
  rw [hW0]
  replace b1 := (b1.kept hg2 (by simp)).kept hg3 (by simp)
  replace b2 := b2.kept hg3 (by simp)
  have hgA := grown_trans hg1 (grown_trans hg2 hg3)
  try simp only [hs1]
  have hseq := lblocks_stopsG ht (grown_below hgA) b2 b3
  have hfew := ht.few
  clear hW0 hA1 hA2 hbh ht hg1 hg2 hg3 hs1 hs2
  refine wpIn_rangeFunc_ownH rfl (by decide) (gf := 204) (lb := #[.pointer (some ⟨w.heap.size + 1, 0, none⟩), .pointer (some ⟨w.heap.size + 1 + 1, 0, none⟩)]) rfl trivial (enters_of Tryz.func204 (by kernel_rfl) rfl) hseq (fun h k => LdK.trans h k) (fun W l o o' hl h hc hw => LdK.put hgA.size (by omega) W l o o' hl h hc hw) (Below.refl _ _) (fun _ => rfl)
    (ListI w f) (fun _ _ _ => False) (ListI.own w _ f hgA.size) (fun _ _ _ _ _ hs _ _ => hs)
    ⟨⟨_, b1, World.ownsRow_nil _ _ _ _⟩, grown_below hgA, by omega⟩
    (fun x a' W => a' = { tmps := #[.pointer p, .int .i64 c, undef, undef, .slice none 0 0, .pointer (some ⟨w.heap.size, 0, none⟩), .int .u64 (f x : Nat), .pointer p, .int .i64 c, .func (.func 204) #[] #[.pointer (some ⟨w.heap.size + 1, 0, none⟩), .pointer (some ⟨w.heap.size + 1 + 1, 0, none⟩)], .int .u64 (f x : Nat), undef, undef, undef, undef, undef], defers := [] })
    (fun x a' _ X Y row hs hg hr => hs)
    ?assign ?body ?done ?stop
  case assign =>
    rintro yl pre x W K hI hK
    gi_wp2
    exact hK _ _ ((KeepsOthers.refl _).from _) (LdK.refl _ _ _ _ _) hI rfl
  case body =>
    rintro yl pre x a' W hl ⟨r, hr⟩ hI rfl hlt
    obtain ⟨v, hv, hrow⟩ := hI.row
    have hc := hv.cell
    have hB := hI.below
    have hbig := hI.big
    have hpl : (pre.map f).length ≤ 600 := by rw [List.length_map]; omega
    have hfil : (pre ++ [x]).map f = pre.map f ++ [f x] := by simp
    obtain ⟨y, hy⟩ : ∃ y, f x = y := ⟨_, rfl⟩
    obtain ⟨ps, hps⟩ : ∃ ps, pre.map f = ps := ⟨_, rfl⟩
    rw [hy, hps] at hfil
    rw [hps] at hpl hrow
    rw [hy]
    have HF := Lib.hid hfil
    have HI := Lib.hid hI
    clear hfil hI hy hps
    gi_wp2_with (gi_at_builtin; go_must (refine wpListIn_append_own _ rfl _ _ 34 rfl w.heap.size 22 i0 (.int .u64 0) 1 8 Tryz.underlying34 hi hz0 hz1 hz2 rfl (by decide) _ _ _ rfl (World.ownsRow.alloc hrow _) ⟨W.heap.size, 0, none⟩ 1 1 [.int .u64 (y : Nat)] rfl rfl (cell_one_new _ _ _) (by simp [Value.oneCell']) (by unfold maxLen; omega) (by omega) (by have := hB.size; simp; omega) ?_); intro v' w1 hown' hgrow _; obtain ⟨g', cap', rfl⟩ := ownsRow_succ hown'; obtain ⟨hv1, hv2, hr2, hk2, hb2⟩ := hv.appended (by decide) hrow hB.size (Nat.le_refl _) hown' hgrow; have hc1 := hv1.cell; have hf1 := hv1.frozen)
    have hgw := World.grownBy_alloc W (.cells #[.int .u64 (y : Nat)] 22) none
    have hne : ∀ {b : Nat} {t : TypeId} {u : Value}, Boxed W b t u → t ≠ 22 → some b ≠ v.ownBlock := fun hb ht e => by
      obtain ⟨_, _, c, fr, h3⟩ := own_num hrow e.symm
      rw [show W.heap[_]? = _ from hb] at h3
      injection h3 with h3
      injection h3 with _ h3 _
      exact ht h3
    have hks : ∀ {b : Nat} {t : TypeId} {u : Value}, Boxed W b t u → t ≠ 22 → b ≠ w.heap.size → Boxed (w1.setCell ⟨w.heap.size, 0, none⟩ (.slice (some ⟨g', 0, none⟩) (ps.length + 1) cap')) b t u := fun hb ht hn =>
      ((hb.kept hgw (by simp)).kept hgrow (hne hb ht)).kept (grown_set _ _ _ _) (fun e => hn (by injection e))
    refine ⟨hk2.from _, ⟨hb2, fun b => hks b (by decide) (by omega), fun b => hks b (by decide) (by omega)⟩, ⟨⟨_, hv2, ?_⟩, hB.trans hb2, Nat.le_trans hbig hb2.size⟩⟩
    rw [HF.out]
    exact OwnW.snoc hr2
  case done =>
    rintro D2 ys W hD rfl hI hK
    obtain ⟨v, hv, hrow⟩ := hI.row
    have hc := hv.cell
    have hB := hI.below
    obtain ⟨va, vn, vc, hvv⟩ := wv_form hrow
    subst hvv
    gi_wp2
    refine ⟨by simp, .inl ⟨_, _, rfl, run_takeDeferred hK, ?_⟩⟩
    exact ⟨.slice va vn vc, by simp [results, Tryz.results126, go_sem], .slice va vn vc, rfl, ownsRow_putObj hrow _ hK rfl, below_grown (hB.trans (belowK_b (w := w) (Nat.le_refl _) W D2 _ _ (by have := hgA.size; omega) hK rfl rfl))⟩
  case stop =>
    rintro D c pre W _ _ h _
    exact h.elim
theorem list_anyG {w : World} {p : Option Addr} {c : Int} {f : Nat → Nat} {n : Nat} (ht : TellsG w (.pointer p) c f n) :
    Calls Tryz.prog 126 #[.pointer p, .int .i64 c] w fun e w' => ∃ v, e = .returned v ∧ OwnW w' w.heap.size v ((List.range n).map f) ∧ w.grownBy w' none := callsIn_wide.1 (list_inG ht)
end Go.Proofs.YtmcnpenihoaajaaGreat
