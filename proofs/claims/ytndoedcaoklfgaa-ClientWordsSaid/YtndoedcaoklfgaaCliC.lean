/-
  Package client: what 'states' hands back, as an iterator: it tells each client's State, in turn; the contract of All.
  Conditions: the Tx is nobody's, or stands in memory.
-/
import Derived.Test.YtndoedcaoklfgaaCliB
import Derived.Test.YtndoedcaoklfgaaTxF
namespace Go.Proofs.Ytndoedcaoklfgaa
open Go.RowKit Go.Shelf
set_option linter.unusedVariables false
set_option linter.unusedSimpArgs false
set_option maxRecDepth 100000
attribute [local go_sem] Oper.semAt_some

/-! ### rows of ints -/
theorem info_int : (Try.prog.info? 3).map (fun i => (i.zero, i.size, i.bytes)) = some (some (.int .i64 0), 1, 8) := by kernel_rfl
def cellsI (l : List Nat) : List Value := l.map fun x => .int .i64 (x : Nat)
def OwnI (w : World) (base : Nat) (v : Value) (xs : List Nat) : Prop := w.ownsRow base 3 1 v xs.length (cellsI xs)
theorem OwnI.later {w w' : World} {base : Nat} {v : Value} {xs : List Nat} (h : OwnI w base v xs) (hg : w.grownBy w' none) : OwnI w' base v xs := own_kept h hg
theorem OwnI.mono {w : World} {base base' : Nat} {v : Value} {xs : List Nat} (h : OwnI w base v xs) (hb : base' ≤ base) : OwnI w base' v xs := World.ownsRow.mono h hb
theorem OwnI.at_ {w : World} {base g c : Nat} {ws : List Nat} (h : OwnI w base (.slice (some ⟨g, 0, none⟩) ws.length c) ws) (j : Nat) (hj : j < ws.length) : w.cell? ⟨g, j, none⟩ = some (.int .i64 (ws.getD j 0 : Nat)) := by
  have := World.ownsRow.cellAt h j (by omega)
  rw [this]
  simp [cellsI, List.getElem?_eq_getElem hj]
theorem OwnI.addr {w : World} {base : Nat} {v : Value} {ws : List Nat} (h : OwnI w base v ws) : ∃ a c g, v = .slice a ws.length c ∧ (0 < ws.length → a = some ⟨g, 0, none⟩) ∧ ∀ w', OwnI w' base v ws → ∀ j, j < ws.length → w'.cell? ⟨g, j, none⟩ = some (.int .i64 (ws.getD j 0 : Nat)) := by
  rcases h.2 with ⟨h1, h2⟩ | ⟨g, cap, cur, hv, _⟩
  · exact ⟨none, 0, 0, by rw [h1, h2], fun h => by omega, fun w' _ j hj => by omega⟩
  · exact ⟨_, cap, g, hv, fun _ => rfl, fun w' h' j hj => by rw [hv] at h'; exact OwnI.at_ h' j hj⟩
theorem iv_form {w : World} {base : Nat} {v : Value} {xs : List Nat} (h : OwnI w base v xs) : ∃ a n c, v = .slice a n c := by
  obtain ⟨a, c, g, h, _⟩ := h.addr
  exact ⟨a, _, c, h⟩
theorem OwnI.snoc {w : World} {base : Nat} {v : Value} {xs : List Nat} {y : Nat} (h : w.ownsRow base 3 1 v (xs.length + 1) (cellsI xs ++ [.int .i64 (y : Nat)])) : OwnI w base v (xs ++ [y]) := by
  unfold OwnI
  have e1 : cellsI (xs ++ [y]) = cellsI xs ++ [.int .i64 (y : Nat)] := by simp [cellsI]
  rw [e1, List.length_append]
  exact h

/-! ### the iterator -/
/-- What a body that goes on keeps: what stood below n, and the box of the Tx. -/
def StK (n tb : Nat) (p : Value) (A C : World) : Prop := Below n A C ∧ (Boxed A tb 26 p → Boxed C tb 26 p)
theorem StK.refl (n tb : Nat) (p : Value) (A : World) : StK n tb p A A := ⟨Below.refl _ _, id⟩
theorem StK.trans {n tb : Nat} {p : Value} {A C E : World} (h : StK n tb p A C) (k : StK n tb p C E) : StK n tb p A E := ⟨h.1.trans k.1, fun b => k.2 (h.2 b)⟩
theorem StK.put {n tb : Nat} {p : Value} {w0 : World} (hn : n ≤ w0.heap.size) (hb : tb < w0.heap.size) (W : World) (l : Nat) (o o' : Obj) (hl : w0.heap.size ≤ l) (h : W.heap[l]? = some o) (hc : o.isCells = false) (hw : o.isWalk = false) : StK n tb p W (W.putObj l o') :=
  ⟨belowK_b (w := w0) hn W l o o' hl h hc hw, fun b => by
    unfold Boxed at b ⊢
    rw [World.putObj_heap_other (by omega)]
    exact b⟩
theorem StK.grown {n tb : Nat} {p : Value} {A C : World} {row : Option Nat} (hn : n ≤ A.heap.size) (hg : A.grownBy C row) (hr : ∀ r, row = some r → n ≤ r ∧ r ≠ tb) : StK n tb p A C :=
  ⟨(Below.refl n A).grown hg hn (fun k e => (hr k e).1), fun b => b.kept hg (fun e => (hr tb e.symm).2 rfl)⟩
/-- 'states' boxes its Tx and hands the closure back. -/
theorem cstates_any (p : Option Addr) (w : World) : Calls Try.prog 39 #[.pointer p] w fun e w' => e = .returned (.func (.func 59) #[] #[.pointer (some ⟨w.heap.size, 0, none⟩)]) ∧ w.alloc (.cells #[.pointer p] 26) = w' := by
  go_enter Try.func39, Try.ntmps39
  go_wp2
  go_ret
  exact ⟨rfl, rfl⟩
set_option maxHeartbeats 1000000 in
/-- The closure of 'states': each client, and its State. -/
theorem cstates_stops {w w0 : World} {tb : Nat} {p : Option Addr} {st : Nat → Nat} (hst : ∀ V : World, w.grownBy V none → ∀ c : Nat, c < 8 → Calls Try.prog 14 #[.pointer p, .int .i64 c] V fun e V' => e = .returned (.int .u64 (st c : Nat)) ∧ V.grownBy V' none)
    (hw0 : Below w.heap.size w w0) (hbx : Boxed w0 tb 26 (.pointer p)) :
    SeqStopsK Fence.wide 5 Try.prog 59 #[.pointer (some ⟨tb, 0, none⟩)] (fun x : Nat => #[.int .i64 (x : Nat), .int .u64 (st x : Nat)]) (StK w.heap.size tb (.pointer p)) (fun ys => ys = List.range 8) (fun _ => True) 8 w0 := by
  intro yl J Jx W hW hJ hJx hY h0
  show CallsIn Fence.wide 5 Try.prog 59 #[.func (.yield yl) #[] #[], .pointer (some ⟨tb, 0, none⟩)] W _
  have hbW : Boxed W tb 26 (.pointer p) := (hW.block tb hbx.lt).trans hbx
  have hBW : Below w.heap.size w W := hw0.grown (below_grown hW) hw0.size (fun k e => by cases e)
  have HJ := Lib.hid hJ
  have HY := Lib.hid hY
  have hsz := hBW.size
  clear hY hJ hJx
  refine callsIn_of_wp Try.func59 rfl trivial ?_ rfl
  simp only [Try.ntmps59, List.size_toArray, List.length_cons, List.length_nil, Nat.reduceAdd, Nat.reduceSub, Array.replicate_succ, Array.replicate_zero, List.push_toArray, List.append_toArray, List.nil_append, List.cons_append]
  gi_wp2
  gi_loopw [4] (fun i wr => ∃ k : Nat, k ≤ 8 ∧ i = .int .i64 k ∧ J (List.range k) wr ∧ Below w.heap.size w wr ∧ W.heap.size ≤ wr.heap.size ∧ Boxed wr tb 26 (.pointer p)) (fun i _ => 8 - (intOf i).toNat)
  case atStart => exact ⟨0, Nat.zero_le _, rfl, h0, hBW, Nat.le_refl _, hbW⟩
  case round =>
    obtain ⟨k, hk, rfl, hJk, hB, hsW, hb⟩ := hrel
    clear h0
    by_cases h1 : k < 8
    · have hs := (callsIn_wide (n := 4)).2 (hst wr (below_grown hB) k h1)
      have cb := hb.cell
      have HJk := Lib.hid hJk
      clear hJk
      gi_wp2_with (refine ⟨trivial, ?_⟩; gi_at_call 14; (with_reducible refine hs.mono ?_); rintro e w2 ⟨rfl, hg2⟩; have hJ2 := HJ.out _ _ _ _ HJk.out hg2 (fun r e => by cases e); obtain ⟨fn, tmps, assign, body, hyy, hR⟩ := HY.out (List.range k) k w2 hJ2 (by simpa using h1); rw [← List.range_succ] at hR)
      refine hR.mono ?_
      rintro e W3 (⟨rfl, hJ3, hk3⟩ | ⟨rfl, hJx3⟩)
      · have hb3 : Boxed W3 tb 26 (.pointer p) := hk3.2 (hb.kept hg2 (by simp))
        have hB3 : Below w.heap.size w W3 := (hB.grown hg2 hB.size (fun k e => by cases e)).trans hk3.1
        have hs3 := Nat.le_trans hsW (Nat.le_trans hg2.size hk3.1.size)
        gi_wp2
        go_roundw
        case rel => exact ⟨k + 1, by omega, by go_num, hJ3, hB3, hs3, hb3⟩
        case measure => simp [intOf]; omega
      · gi_wp2
        refine bodyPost_ret (results_none rfl _ _ _) rfl ?_
        exact ⟨⟨_, rfl⟩, .inr ⟨_, trivial, hJx3⟩⟩
    · obtain rfl : k = 8 := by omega
      gi_wp2
      go_end0
      exact ⟨⟨_, rfl⟩, .inl ⟨_, rfl, hJk⟩⟩
/-! ### All -/
/-- the clients of a state -/
def ofState (st : Nat → Nat) (s : Nat) : List Nat := (List.range 8).filter fun x => decide (st x = s)
theorem ofState_len (st : Nat → Nat) (s : Nat) : (ofState st s).length ≤ 8 := Nat.le_trans (List.length_filter_le _ _) (by simp)
/-- What All's loop holds. -/
structure AllI (w : World) (st : Nat → Nat) (s : Nat) (pre : List Nat) (W : World) : Prop where
  row : ∃ v, Boxed W (w.heap.size + 1) 44 v ∧ OwnI W w.heap.size v (pre.filter fun x => decide (st x = s))
  key : Boxed W w.heap.size 24 (.int .u64 (s : Nat))
  below : Below w.heap.size w W
  big : w.heap.size + 3 ≤ W.heap.size
theorem own_int {base : Nat} {A : World} {v : Value} {xs : List Nat} {g : Nat} (h : OwnI A base v xs) (hg : v.ownBlock = some g) : base ≤ g ∧ g < A.heap.size ∧ ∃ c fr, A.heap[g]? = some (.cells c 3 fr) := by
  obtain ⟨_, cur, hb⟩ := row_block h hg
  exact ⟨(World.ownsRow.lt h g hg).1, (World.ownsRow.lt h g hg).2, cur, _, hb⟩
theorem AllI.own (w : World) (n : Nat) (st : Nat → Nat) (s : Nat) (hn : w.heap.size ≤ n) : OwnFrom n (AllI w st s) := fun pre X Y row hs hg hr => by
  have hc : ∀ {b : Nat} {c : Array Value} {t : TypeId} {fr : Nat × Nat}, X.heap[b]? = some (.cells c t fr) → row ≠ some b := fun h e => by
    obtain ⟨_, o, ho, hc⟩ := hr _ e
    rw [h] at ho; cases ho; cases hc
  obtain ⟨v, h1, h2⟩ := hs.row
  refine ⟨⟨v, h1.kept hg (fun e => hc h1 e.symm), ?_⟩, hs.key.kept hg (fun e => hc hs.key e.symm), hs.below.grown hg hs.below.size (fun k e => Nat.le_trans hn (hr k e).1), Nat.le_trans hs.big hg.size⟩
  refine World.ownsRow.kept h2 hg ?_
  by_cases e : v.ownBlock = none
  · exact .inl e
  · refine .inr fun e2 => ?_
    obtain ⟨g, hg2⟩ := Option.ne_none_iff_exists'.1 e
    obtain ⟨_, _, c, fr, h3⟩ := own_int h2 hg2
    exact hc h3 (by rw [← e2, hg2])
set_option maxHeartbeats 2000000 in
theorem call_in {w : World} {p : Option Addr} {st : Nat → Nat} (hst : ∀ V : World, w.grownBy V none → ∀ c : Nat, c < 8 → Calls Try.prog 14 #[.pointer p, .int .i64 c] V fun e V' => e = .returned (.int .u64 (st c : Nat)) ∧ V.grownBy V' none) (s : Nat) :
    CallsIn Fence.wide 6 Try.prog 20 #[.pointer p, .int .u64 s] w fun e w' => ∃ v, e = .returned v ∧ OwnI w' w.heap.size v (ofState st s) ∧ w.grownBy w' none := by
  obtain ⟨i0, hi, hz0, hz1, hz2⟩ := info_parts info_int
  have hbh : ∀ V : World, CallsIn Fence.wide 5 Try.prog 39 #[.pointer p] V _ := fun V => (callsIn_wide (n := 5)).2 (cstates_any p V)
  refine callsIn_of_wp_marks Try.func20 rfl trivial ?_ rfl
  simp only [Try.ntmps20, List.size_toArray, List.length_cons, List.length_nil, Nat.reduceAdd, Nat.reduceSub, Array.replicate_succ, Array.replicate_zero, List.push_toArray, List.append_toArray, List.nil_append, List.cons_append]
  gi_wp2_with (first | (refine ⟨trivial, ?_⟩; gi_at_call 39; (with_reducible refine (hbh _).mono ?_); rintro e w2 ⟨rfl, rfl⟩))
  have b0 : Boxed (w.alloc (.cells #[.int .u64 s] 24)) w.heap.size 24 (.int .u64 s) := Boxed.new _ _ _
  have b1 : Boxed ((w.alloc (.cells #[.int .u64 s] 24)).alloc (.cells #[.slice none 0 0] 44)) (w.heap.size + 1) 44 (.slice none 0 0) := by
    have := Boxed.new (w.alloc (.cells #[.int .u64 s] 24)) 44 (.slice none 0 0)
    rwa [World.size_alloc] at this
  have b2 : Boxed (((w.alloc (.cells #[.int .u64 s] 24)).alloc (.cells #[.slice none 0 0] 44)).alloc (.cells #[.pointer p] 26)) (w.heap.size + 2) 26 (.pointer p) := by
    have := Boxed.new ((w.alloc (.cells #[.int .u64 s] 24)).alloc (.cells #[.slice none 0 0] 44)) 26 (.pointer p)
    rwa [World.size_alloc, World.size_alloc] at this
  have hgA : w.grownBy (((w.alloc (.cells #[.int .u64 s] 24)).alloc (.cells #[.slice none 0 0] 44)).alloc (.cells #[.pointer p] 26)) none := grown_trans (World.grownBy_alloc _ _ _) (grown_trans (World.grownBy_alloc _ _ _) (World.grownBy_alloc _ _ _))
  have hszA : (((w.alloc (.cells #[.int .u64 s] 24)).alloc (.cells #[.slice none 0 0] 44)).alloc (.cells #[.pointer p] 26)).heap.size = w.heap.size + 3 := by simp
  replace b1 := b1.alloc (.cells #[.pointer p] 26)
  replace b0 := (b0.alloc (.cells #[.slice none 0 0] 44)).alloc (.cells #[.pointer p] 26)
  obtain ⟨W0, hW0⟩ : ∃ W0, ((w.alloc (.cells #[.int .u64 s] 24)).alloc (.cells #[.slice none 0 0] 44)).alloc (.cells #[.pointer p] 26) = W0 := ⟨_, rfl⟩
  rw [hW0] at hgA b0 b1 b2 hszA ⊢
  have hseq := cstates_stops hst (grown_below hgA) b2
  clear hW0 hbh hst
  refine wpIn_rangeFunc_ownH rfl (by decide) (gf := 59) (lb := #[.pointer (some ⟨w.heap.size + 2, 0, none⟩)]) rfl trivial (enters_of Try.func59 (by kernel_rfl) rfl) hseq (fun h k => StK.trans h k) (fun W l o o' hl h hc hw => StK.put hgA.size (by omega) W l o o' hl h hc hw) (Below.refl _ _) (fun _ => rfl)
    (AllI w st s) (fun _ _ _ => False) (AllI.own w _ st s hgA.size) (fun _ _ _ _ _ hs _ _ => hs)
    ⟨⟨_, b1, World.ownsRow_nil _ _ _ _⟩, b0, grown_below hgA, by omega⟩
    (fun x a' W => a' = { tmps := #[.pointer p, .int .u64 s, undef, .pointer (some ⟨w.heap.size, 0, none⟩), .slice none 0 0, .pointer (some ⟨w.heap.size + 1, 0, none⟩), .int .i64 (x : Nat), .int .u64 (st x : Nat), .pointer p, .func (.func 59) #[] #[.pointer (some ⟨w.heap.size + 2, 0, none⟩)], .int .i64 (x : Nat), .int .u64 (st x : Nat), undef, undef, undef, undef, undef, undef, undef, undef], defers := [] })
    (fun x a' _ X Y row hs hg hr => hs)
    ?assign ?body ?done ?stop
  case assign =>
    rintro yl pre x W K hI hK
    gi_wp2
    exact hK _ _ ((KeepsOthers.refl _).from _) (StK.refl _ _ _ _) hI rfl
  case body =>
    rintro yl pre x a' W hl ⟨r, hr⟩ hI rfl hlt
    obtain ⟨v, hv, hrow⟩ := hI.row
    have hc := hv.cell
    have hck := hI.key.cell
    have hB := hI.below
    have hbig := hI.big
    by_cases hx : st x = s
    · have hx' : (st x : Int) = (s : Int) := by omega
      have hpl : (pre.filter fun x => decide (st x = s)).length ≤ 8 := Nat.le_trans (List.length_filter_le _ _) (by omega)
      have hfil : (pre ++ [x]).filter (fun x => decide (st x = s)) = pre.filter (fun x => decide (st x = s)) ++ [x] := by simp [List.filter_append, hx]
      have HF := Lib.hid hfil
      have HI := Lib.hid hI
      clear hfil hI
      gi_wp2_with (gi_at_builtin; go_must (refine wpListIn_append_own _ rfl _ _ 44 rfl w.heap.size 3 i0 (.int .i64 0) 1 8 Try.underlying44 hi hz0 hz1 hz2 rfl (by decide) _ _ _ rfl (World.ownsRow.alloc hrow _) ⟨W.heap.size, 0, none⟩ 1 1 [.int .i64 (x : Nat)] rfl rfl (cell_one_new _ _ _) (by simp [Value.oneCell']) (by unfold maxLen; omega) (by omega) (by have := hB.size; simp; omega) ?_); intro v' w1 hown' hgrow _; obtain ⟨g', cap', rfl⟩ := ownsRow_succ hown'; obtain ⟨hv1, hv2, hr2, hk2, hb2⟩ := hv.appended (by decide) hrow hB.size (Nat.le_succ _) hown' hgrow; have hc1 := hv1.cell; have hf1 := hv1.frozen)
      have hgw := World.grownBy_alloc W (.cells #[.int .i64 (x : Nat)] 3) none
      have hne : ∀ {b : Nat} {t : TypeId} {u : Value}, Boxed W b t u → t ≠ 3 → some b ≠ v.ownBlock := fun hb ht e => by
        obtain ⟨_, _, c, fr, h3⟩ := own_int hrow e.symm
        rw [show W.heap[_]? = _ from hb] at h3
        injection h3 with h3
        injection h3 with _ h3 _
        exact ht h3
      have hks : ∀ {b : Nat} {t : TypeId} {u : Value}, Boxed W b t u → t ≠ 3 → b ≠ w.heap.size + 1 → Boxed (w1.setCell ⟨w.heap.size + 1, 0, none⟩ (.slice (some ⟨g', 0, none⟩) ((pre.filter fun x => decide (st x = s)).length + 1) cap')) b t u := fun hb ht hn =>
        ((hb.kept hgw (by simp)).kept hgrow (hne hb ht)).kept (grown_set _ _ _ _) (fun e => hn (by injection e))
      refine ⟨hk2.from _, ⟨hb2, fun b => hks b (by decide) (by omega)⟩, ⟨⟨_, hv2, ?_⟩, hks HI.out.key (by decide) (by omega), hB.trans hb2, Nat.le_trans hbig hb2.size⟩⟩
      rw [HF.out]
      exact OwnI.snoc hr2
    · have hx' : ¬ (st x : Int) = (s : Int) := by omega
      have hfil : (pre ++ [x]).filter (fun x => decide (st x = s)) = pre.filter (fun x => decide (st x = s)) := by simp [List.filter_append, hx]
      gi_wp2
      exact ⟨(KeepsOthers.refl _).from _, StK.refl _ _ _ _, ⟨⟨v, hv, by rw [hfil]; exact hrow⟩, hI.key, hB, hbig⟩⟩
  case done =>
    rintro D2 ys W hD rfl hI hK
    obtain ⟨v, hv, hrow⟩ := hI.row
    have hc := hv.cell
    have hB := hI.below
    replace hrow : OwnI W w.heap.size v (ofState st s) := hrow
    obtain ⟨va, vn, vc, hvv⟩ := iv_form hrow
    subst hvv
    gi_wp2
    refine ⟨by simp, .inl ⟨_, _, rfl, run_takeDeferred hK, ?_⟩⟩
    exact ⟨.slice va vn vc, by simp [results, Try.results20, go_sem], .slice va vn vc, rfl, ownsRow_putObj hrow _ hK rfl, below_grown (hB.trans (belowK_b (w := w) (Nat.le_refl _) W D2 _ _ (by have := hgA.size; omega) hK rfl rfl))⟩
  case stop =>
    rintro D c pre W _ _ h _
    exact h.elim
section
variable {w : World} {T M : Nat} {R : Option Nat} {B D : Nat} {ws : List Nat} {l : List (Nat × Nat)}
theorem call_any (h : Thinks w T M R B D ws l) (s : Nat) :
    Calls Try.prog 20 #[.pointer (some ⟨T, 0, none⟩), .int .u64 s] w fun e w' => ∃ v, e = .returned v ∧ OwnI w' w.heap.size v (ofState (fun x => cGet ws l x 0) s) ∧ w.grownBy w' none :=
  callsIn_wide.1 (call_in (fun V hg c _ => cstate_any (h.later hg) c) s)
end
theorem call_nil (s : Nat) (w : World) :
    Calls Try.prog 20 #[.pointer none, .int .u64 s] w fun e w' => ∃ v, e = .returned v ∧ OwnI w' w.heap.size v (ofState (fun _ => 0) s) ∧ w.grownBy w' none :=
  callsIn_wide.1 (call_in (fun V hg c _ => (cstate_nil c V).mono fun e V' ⟨h1, h2⟩ => ⟨h1, h2 ▸ grown_refl _ _⟩) s)
end Go.Proofs.Ytndoedcaoklfgaa
