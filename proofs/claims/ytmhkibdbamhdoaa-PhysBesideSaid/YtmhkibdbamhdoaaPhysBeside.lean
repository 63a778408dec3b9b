/-
  Whether blocks are merged, and any one's neighbours. The statement PhysBeside, for every list of plain blocks, and every number; no condition.
-/
import Derived.Test.YtmhkibdbamhdoaaPhysP
import Derived.Test.YtmhkibdbamhdoaaPhysQ
import Derived.Test.YtmhkibdbamhdoaaPhysH
import Derived.Test.YtmhkibdbamhdoaaPhysO
namespace Go.Proofs.Ytmhkibdbamhdoaa.physBeside
open Go.ChangeShapes Go.WideShapes Go.ChangeAt Go.RowKit
set_option linter.unusedVariables false
set_option linter.unusedSimpArgs false

/-- 'append(k, b)': a block more. -/
theorem wpList_append_pblk {w2 : World} {base k : Nat} {l : List Blk} {v : Value} (hkl : l.length = k) (hown : OwnB w2 base 42 v l) (hn : l.length ≤ 1000000) (hbase : base ≤ w2.heap.size) (b : Blk)
    {ops : Array Oper} {rest : List Oper} {o : Oper} {a : Act} {Q : Exit → Act → World → Prop} (hgd : o.guard = none) (s x : Operand)
    (ho : o.op = .call { callee := .builtin .append, args := #[s, x], argTypes := #[32, 32] })
    (hs : a.eval s = v) {m : Nat} (hx : a.eval x = .slice (some ⟨m, 0, none⟩) 1 1) (hm : m = w2.heap.size)
    (h : ∀ g cp w', OwnB w' base 42 (.slice (some ⟨g, 0, none⟩) (k + 1) cp) (l ++ [b]) → w2.grownBy w' v.ownBlock → wpList Try.prog ops Q rest (a.put o.dst (.slice (some ⟨g, 0, none⟩) (k + 1) cp)) w') :
    wpList Try.prog ops Q (o :: rest) a (w2.alloc (.cells #[.int .u64 (b.off : Nat), .int .u64 (b.s : Nat), .bool b.u, .int .i64 b.o, .int .u64 (b.n : Nat)] 42)) := by
  subst hkl
  subst hm
  obtain ⟨i0, hi, hz0, hz1, hz2⟩ := info_parts info_blk
  refine wpList_append_own _ hgd s x 32 ho base 42 i0 (.agg #[.int .u64 0, .int .u64 0, .bool false, .int .i64 0, .int .u64 0]) 5 40 Try.underlying32 hi hz0 hz1 hz2 rfl (by decide) v l.length (cellsB l) hs (World.ownsRow.alloc hown _) ⟨w2.heap.size, 0, none⟩ 1 1 b.row hx rfl (cells_five_new _ _ _ _ _ _ _) (by simp [Value.oneCell', Blk.row]) (by unfold maxLen; omega) (by omega) (by rw [World.size_alloc]; omega) fun v' w' h1 h2 _ => ?_
  obtain ⟨g, cp, rfl⟩ := ownsRow_succ h1
  refine h g cp w' ?_ (grown_trans (World.grownBy_alloc _ _ _) h2)
  unfold OwnB
  rw [cellsB_snoc, List.length_append]
  exact h1
theorem take_more {l : List Blk} {k : Nat} (h : k < l.length) : l.take k ++ [l.getD k default] = l.take (k + 1) := by
  rw [List.take_succ_eq_append_getElem h, List.getD_eq_getElem?_getD, List.getElem?_eq_getElem h]
  rfl
set_option maxRecDepth 100000 in
set_option maxHeartbeats 8000000 in
theorem core {la : Option Addr} {c : Nat} {l : List Blk} (hn : l.length ≤ maxLen) {w : World} (hp : BlksAt w la l) (off : Nat) :
    Calls Try.prog 7 #[.slice la l.length c, .int .u64 off] w fun e w' => e = .returned (.bool true) ∧ w.grownBy w' none := by
  unfold maxLen at hn
  obtain ⟨n, hln⟩ : ∃ n, l.length = n := ⟨_, rfl⟩
  by_cases h20 : 20 < n
  · rw [hln] at hn ⊢
    have h20' : (20 : Int) < (n : Int) := by omega
    clear hln
    go_enter Try.func7, Try.ntmps7
    go_wp2_with (go_at_call 9; ((with_reducible refine (awake6 _).mono ?_); rintro e w1 ⟨rfl, hg1⟩))
    go_ret
    exact ⟨rfl, hg1⟩
  · have h20' : ¬ (20 : Int) < (n : Int) := by omega
    have hlen : l.length ≤ 1000000 := by omega
    have hbf : ∀ (w : World) (la : Option Addr) (c : Nat) (h : BlksAt w la l), Calls Try.prog 18 #[.slice la l.length c, .int .u64 off] w _ := fun w la c h => before_any (c := c) h hlen off
    have haf : ∀ (w : World) (la : Option Addr) (c : Nat) (h : BlksAt w la l), Calls Try.prog 20 #[.slice la l.length c, .int .u64 off] w _ := fun w la c h => after_any (c := c) h hlen off
    have hb1 : ∀ (w : World) (la : Option Addr) (c : Nat) (h : BlksAt w la l), Calls Try.prog 19 #[.slice la l.length c, .int .u64 off, .int .i64 (-1)] w _ := fun w la c h => rbeside_any (c := c) h hlen off (-1) (by omega)
    have hb2 : ∀ (w : World) (la : Option Addr) (c : Nat) (h : BlksAt w la l), Calls Try.prog 19 #[.slice la l.length c, .int .u64 off, .int .i64 1] w _ := fun w la c h => rbeside_any (c := c) h hlen off 1 (by omega)
    have hm1 : ∀ (w : World) (la : Option Addr) (c : Nat) (h : BlksAt w la l), Calls Try.prog 21 #[.slice la l.length c] w _ := fun w la c h => merged_any (c := c) h hlen
    have hm2 : ∀ (w : World) (la : Option Addr) (c : Nat) (h : BlksAt w la l), Calls Try.prog 22 #[.slice la l.length c] w _ := fun w la c h => rmerged_any (c := c) h hlen
    obtain ⟨r1, er1⟩ : ∃ r, besB (pO off) l (-1) = r := ⟨_, rfl⟩
    obtain ⟨s1, es1⟩ : ∃ s, (besN (pO off) l (-1)).isSome = s := ⟨_, rfl⟩
    obtain ⟨r2, er2⟩ : ∃ r, besB (pO off) l 1 = r := ⟨_, rfl⟩
    obtain ⟨s2, es2⟩ : ∃ s, (besN (pO off) l 1).isSome = s := ⟨_, rfl⟩
    obtain ⟨mm, em⟩ : ∃ m, mergedL l = m := ⟨_, rfl⟩
    rw [er1, es1] at hbf hb1
    rw [er2, es2] at haf hb2
    rw [em] at hm1 hm2
    simp only [Blk.val] at hbf hb1 haf hb2
    have hmd := fun (b : Blk) w => made6_any b w
    rw [hln] at hbf haf hb1 hb2 hm1 hm2 ⊢
    have HN := Lib.hid hln
    clear er1 es1 er2 es2 em hn hln hlen
    go_enter Try.func7, Try.ntmps7
    go_wp2_with (go_at_call 9; ((with_reducible refine (awake6 _).mono ?_); rintro e w1 ⟨rfl, hg1⟩))
    go_loopw [6, 7] (fun v i wr => ∃ k : Nat, k ≤ n ∧ i = .int .i64 k ∧ w.grownBy wr none ∧ OwnB wr w.heap.size 42 v (l.take k)) (fun _ i _ => n - (intOf i).toNat)
    case atStart => exact ⟨0, Nat.zero_le _, rfl, hg1, by rw [List.take_zero]; exact World.ownsRow_nil _ _ _ _⟩
    case round =>
      obtain ⟨k, hk, rfl, hg, hrow⟩ := hrel
      rcases Nat.lt_or_ge k n with h1 | h1
      · have hkl : k < l.length := by rw [HN.out]; exact h1
        obtain ⟨b, o, rfl, hb, hcs⟩ := (hp.later hg).cells (by omega)
        obtain ⟨c0, c1, c2, c3, c4⟩ := hcs k hkl
        have hmk : ∀ w, Calls Try.prog 16 #[.agg #[.int .u64 (gO l k : Nat), .int .u64 (gS l k : Nat), .bool (gU l k), .int .i64 (gW l k), .int .u64 (gN l k : Nat)]] w fun e w' => e = .returned (.agg #[.int .u64 (gO l k : Nat), .int .u64 (gS l k : Nat), .bool (gU l k), .int .i64 (gW l k), .int .u64 (gN l k : Nat)]) ∧ w.grownBy w' none := fun w => hmd (l.getD k default) w
        obtain ⟨va, vc, hv, _⟩ := hrow.at_
        have hkt : (l.take k).length = k := by rw [List.length_take]; omega
        have HKT := Lib.hid hkt
        rw [hkt] at hv
        subst hv
        have hlk : (l.take k).length ≤ 1000000 := by omega
        have hown : ∀ i, (Value.slice va k vc).ownBlock = some i → w.heap.size ≤ i := fun i hi => (row_block hrow hi).1
        have HO := Lib.hid hown
        clear hcs hkt hown
        go_wp2_with (first | (go_at_call 16; ((with_reducible refine (hmk _).mono ?_); rintro e w2 ⟨rfl, hg2⟩; have hrow2 := hrow.later hg2)) | (at_builtin; go_must (refine wpList_append_pblk HKT.out hrow2 hlk (grown_trans hg hg2).size (l.getD k default) rfl _ _ rfl rfl rfl (by simp) ?_); intro g cp w3 hrow3 hg3))
        go_roundw
        case rel => exact ⟨k + 1, by omega, by go_num, grown_step (grown_trans hg hg2) hg3 (fun i hi => .inl (HO.out i hi)), by rw [take_more hkl] at hrow3; exact hrow3⟩
        case measure => simp [intOf]; omega
      · obtain rfl : k = n := by omega
        rw [← HN.out, List.take_length] at hrow
        obtain ⟨va, vc, hv, hat⟩ := hrow.at_
        rw [HN.out] at hv
        subst hv
        have HA := Lib.hid hat
        have HP := Lib.hid (hp.later hg)
        clear hat hrow hp hmd
        have hmd1 := fun w => made6_any r1 w
        have hmd2 := fun w => made6_any r2 w
        go_wp2_with (first | (go_at_call 18; ((with_reducible refine (hbf _ _ _ HA.out).mono ?_); rintro e w2 ⟨rfl, hg2⟩; have ha2 := World.grownBy_alloc w2 (.cells #[.int .u64 (r1.off : Nat), .int .u64 (r1.s : Nat), .bool r1.u, .int .i64 r1.o, .int .u64 (r1.n : Nat)] 42) none; have G2 := grown_trans hg2 ha2)) | (go_at_call 19; ((with_reducible refine (hb1 _ _ _ (HP.out.later G2)).mono ?_); rintro e w3 ⟨rfl, hg3⟩; have ha3 := World.grownBy_alloc w3 (.cells #[.int .u64 (r1.off : Nat), .int .u64 (r1.s : Nat), .bool r1.u, .int .i64 r1.o, .int .u64 (r1.n : Nat)] 47) none; have G3 := grown_trans G2 (grown_trans hg3 ha3))) | (go_at_call 20; ((with_reducible refine (haf _ _ _ (HA.out.later G3)).mono ?_); rintro e w4 ⟨rfl, hg4⟩; have ha4 := World.grownBy_alloc w4 (.cells #[.int .u64 (r2.off : Nat), .int .u64 (r2.s : Nat), .bool r2.u, .int .i64 r2.o, .int .u64 (r2.n : Nat)] 42) none; have G4 := grown_trans G3 (grown_trans hg4 ha4))) | (go_at_call 19; ((with_reducible refine (hb2 _ _ _ (HP.out.later G4)).mono ?_); rintro e w5 ⟨rfl, hg5⟩; have ha5 := World.grownBy_alloc w5 (.cells #[.int .u64 (r2.off : Nat), .int .u64 (r2.s : Nat), .bool r2.u, .int .i64 r2.o, .int .u64 (r2.n : Nat)] 47) none; have G5 := grown_trans G4 (grown_trans hg5 ha5))))
        have hcell : ∀ {wr : World}, (w5.alloc (.cells #[.int .u64 (r2.off : Nat), .int .u64 (r2.s : Nat), .bool r2.u, .int .i64 r2.o, .int .u64 (r2.n : Nat)] 47)).grownBy wr none → (wr.cell? ⟨w2.heap.size, 0, none⟩ = some (.int .u64 (r1.off : Nat)) ∧ wr.cell? ⟨w2.heap.size, 1, none⟩ = some (.int .u64 (r1.s : Nat)) ∧ wr.cell? ⟨w2.heap.size, 2, none⟩ = some (.bool r1.u) ∧ wr.cell? ⟨w2.heap.size, 3, none⟩ = some (.int .i64 r1.o) ∧ wr.cell? ⟨w2.heap.size, 4, none⟩ = some (.int .u64 (r1.n : Nat))) ∧ (wr.cell? ⟨w3.heap.size, 0, none⟩ = some (.int .u64 (r1.off : Nat)) ∧ wr.cell? ⟨w3.heap.size, 1, none⟩ = some (.int .u64 (r1.s : Nat)) ∧ wr.cell? ⟨w3.heap.size, 2, none⟩ = some (.bool r1.u) ∧ wr.cell? ⟨w3.heap.size, 3, none⟩ = some (.int .i64 r1.o) ∧ wr.cell? ⟨w3.heap.size, 4, none⟩ = some (.int .u64 (r1.n : Nat))) ∧ (wr.cell? ⟨w4.heap.size, 0, none⟩ = some (.int .u64 (r2.off : Nat)) ∧ wr.cell? ⟨w4.heap.size, 1, none⟩ = some (.int .u64 (r2.s : Nat)) ∧ wr.cell? ⟨w4.heap.size, 2, none⟩ = some (.bool r2.u) ∧ wr.cell? ⟨w4.heap.size, 3, none⟩ = some (.int .i64 r2.o) ∧ wr.cell? ⟨w4.heap.size, 4, none⟩ = some (.int .u64 (r2.n : Nat))) ∧ (wr.cell? ⟨w5.heap.size, 0, none⟩ = some (.int .u64 (r2.off : Nat)) ∧ wr.cell? ⟨w5.heap.size, 1, none⟩ = some (.int .u64 (r2.s : Nat)) ∧ wr.cell? ⟨w5.heap.size, 2, none⟩ = some (.bool r2.u) ∧ wr.cell? ⟨w5.heap.size, 3, none⟩ = some (.int .i64 r2.o) ∧ wr.cell? ⟨w5.heap.size, 4, none⟩ = some (.int .u64 (r2.n : Nat))) := fun {wr} hg =>
          ⟨five_cells (five_first (grown_trans hg3 (grown_trans ha3 (grown_trans hg4 (grown_trans ha4 (grown_trans hg5 (grown_trans ha5 hg))))))), five_cells (five_first (grown_trans hg4 (grown_trans ha4 (grown_trans hg5 (grown_trans ha5 hg))))), five_cells (five_first (grown_trans hg5 (grown_trans ha5 hg))), five_cells (five_first hg)⟩
        have HG : (w5.alloc (.cells #[.int .u64 (r2.off : Nat), .int .u64 (r2.s : Nat), .bool r2.u, .int .i64 r2.o, .int .u64 (r2.n : Nat)] 47)).grownBy (w5.alloc (.cells #[.int .u64 (r2.off : Nat), .int .u64 (r2.s : Nat), .bool r2.u, .int .i64 r2.o, .int .u64 (r2.n : Nat)] 47)).drew none := grown_drew (grown_refl _ _)
        obtain ⟨⟨x0, x1, x2, x3, x4⟩, ⟨y0, y1, y2, y3, y4⟩, ⟨z0, z1, z2, z3, z4⟩, u0, u1, u2, u3, u4⟩ := hcell HG
        go_region_held3 (fun wr => (wr.cell? ⟨w2.heap.size, 0, none⟩ = some (.int .u64 (r1.off : Nat)) ∧ wr.cell? ⟨w2.heap.size, 1, none⟩ = some (.int .u64 (r1.s : Nat)) ∧ wr.cell? ⟨w2.heap.size, 2, none⟩ = some (.bool r1.u) ∧ wr.cell? ⟨w2.heap.size, 3, none⟩ = some (.int .i64 r1.o) ∧ wr.cell? ⟨w2.heap.size, 4, none⟩ = some (.int .u64 (r1.n : Nat))) ∧ (wr.cell? ⟨w3.heap.size, 0, none⟩ = some (.int .u64 (r1.off : Nat)) ∧ wr.cell? ⟨w3.heap.size, 1, none⟩ = some (.int .u64 (r1.s : Nat)) ∧ wr.cell? ⟨w3.heap.size, 2, none⟩ = some (.bool r1.u) ∧ wr.cell? ⟨w3.heap.size, 3, none⟩ = some (.int .i64 r1.o) ∧ wr.cell? ⟨w3.heap.size, 4, none⟩ = some (.int .u64 (r1.n : Nat))) ∧ (wr.cell? ⟨w4.heap.size, 0, none⟩ = some (.int .u64 (r2.off : Nat)) ∧ wr.cell? ⟨w4.heap.size, 1, none⟩ = some (.int .u64 (r2.s : Nat)) ∧ wr.cell? ⟨w4.heap.size, 2, none⟩ = some (.bool r2.u) ∧ wr.cell? ⟨w4.heap.size, 3, none⟩ = some (.int .i64 r2.o) ∧ wr.cell? ⟨w4.heap.size, 4, none⟩ = some (.int .u64 (r2.n : Nat))) ∧ (wr.cell? ⟨w5.heap.size, 0, none⟩ = some (.int .u64 (r2.off : Nat)) ∧ wr.cell? ⟨w5.heap.size, 1, none⟩ = some (.int .u64 (r2.s : Nat)) ∧ wr.cell? ⟨w5.heap.size, 2, none⟩ = some (.bool r2.u) ∧ wr.cell? ⟨w5.heap.size, 3, none⟩ = some (.int .i64 r2.o) ∧ wr.cell? ⟨w5.heap.size, 4, none⟩ = some (.int .u64 (r2.n : Nat)))) (exact hcell HG)
          (first | (go_at_call 21; ((with_reducible refine (hm1 _ _ _ (HA.out.later (grown_trans G5 HG))).mono ?_); rintro e w9 ⟨rfl, hg9⟩; replace HG := grown_trans HG hg9)) | (go_at_call 22; ((with_reducible refine (hm2 _ _ _ (HP.out.later (grown_trans G5 HG))).mono ?_); rintro e w9 ⟨rfl, hg9⟩; replace HG := grown_trans HG hg9)) | (go_at_call 16; ((with_reducible refine (hmd1 _).mono ?_); rintro e w9 ⟨rfl, hg9⟩; replace HG := grown_trans HG hg9)) | (go_at_call 16; ((with_reducible refine (hmd2 _).mono ?_); rintro e w9 ⟨rfl, hg9⟩; replace HG := grown_trans HG hg9)))
        have hend := grown_trans hg (grown_trans G5 HG)
        go_wp2
        go_ret
        exact ⟨ret_bool' (by simp), hend⟩
theorem walk {la : Option Addr} {c : Nat} {l : List Blk} (hn : l.length ≤ maxLen) {w : World} (hp : BlksAt w la l) (b : Int) (wb : (Lit.int .u64 b).wf = true) :
    Calls Try.prog 7 #[.slice la l.length c, .int .u64 b] w fun e w' => e = .returned (.bool true) ∧ Below w.heap.size w w' := by
  have b1 := bounds_u64 wb
  obtain ⟨off, rfl⟩ := Int.eq_ofNat_of_zero_le b1.1
  exact (core hn hp off).mono fun e w' ⟨h1, h2⟩ => ⟨h1, grown_below h2⟩

theorem laidOut : laidOutB Try.prog = true := by kernel_rfl
/-! ### The row's step: the guide's frame -/
theorem own : ownKnob Try.prog.godebug = none := by kernel_rfl
set_option maxRecDepth 100000 in
theorem lifted (os : Os) (started : os.Started) (H : Type) (enc : TypeId × Value → H) :
    ReturnsInHanded {} Try.checked os 7 .any (Rows.physBesideSpec.pre6 enc Try.prog Try.f7 Rows.physBesideRow.domain false) (Rows.physBesideSpec.post enc Try.prog Try.f7 false true false false) := by
  refine returnsInHanded_of_change (C := Try.checked) own started (by kernel_rfl) Try.func7
    (ChangeSpec.witness6 (enc := enc) (C := Try.checked) false ⟨#[], #[.slice none 0 0, .int .u64 0], []⟩ 8 (by kernel_rfl) (by kernel_rfl) (by kernel_rfl) (by kernel_rfl)) ?_
  intro W base args ds gs before hval0 hW hcnd _
  have hval : ∀ (j : Nat) t v, Try.f7.params[j]? = some t → args[j]? = some v → Value.okWide Try.prog W .any base t v := hval0
  have hW' := hW
  obtain ⟨p, q, hA0, hV, rfl, hfz, hnd⟩ := hW
  have hA : DataW.TrodAll enc Try.prog W 0 (fun _ => true) true Try.f7.params.toList args.toList ds p := hA0
  rw [Try.params7] at hA hval
  obtain ⟨v0, vs0, d0, ds0, p0, q0, hargs, rfl, rfl, h0, r0⟩ := trodAll_cons hA
  obtain ⟨v1, vs1, d1, ds1, p1, q1, rfl, rfl, rfl, h1, r1⟩ := trodAll_cons r0
  obtain ⟨rfl, rfl, rfl⟩ := trodAll_nil r1
  obtain rfl : args = #[v0, v1] := by cases args; simp_all
  obtain ⟨rfl, rfl⟩ := trodVars_none hV
  have lt0 : ∀ x ∈ p0, x.block < W.heap.size := by obtain ⟨m, hm⟩ := h0; exact DataW.trod_lt m _ _ _ hm
  obtain ⟨la0, c0, l0, rfl, hn0, hp0⟩ := open_blks (hval 0 36 v0 rfl rfl) h0
  obtain ⟨a1, rfl, rfl, rfl, w1⟩ := open_int Try.underlying24 (hval 1 24 v1 rfl rfl) h1
  clear hA0 hval0
  refine (walk hn0 hp0 a1 w1).mono fun e W' ⟨he, bel⟩ => ?_
  subst he
  exact ⟨_, rfl, _, _, _, [], _, [], hW', trodAll_mk1 (shut_bool Try.underlying4 _), (trodAll_cons_mk (Below.trod laidOut (by kernel_rfl) (of_decide_eq_true (by kernel_rfl)) h0 bel lt0) (trodAll_cons_mk (shut_int Try.underlying24 w1) trodAll_mk0)), rfl, bel.frame _, fun h => by cases h⟩

theorem over : Rows.physBesideRow.holds Try.pinned (OpenSpec.ofChange Rows.physBesideSpec) :=
  OpenClaim.holds_of_wide 7 Try.f7 rfl rfl rfl rfl rfl rfl rfl ⟨rfl, rfl, rfl, rfl, rfl⟩ rfl rfl rfl rfl rfl (by kernel_rfl) Try.func7 (by kernel_rfl)
    (of_decide_eq_true (by kernel_rfl)) (by unfold Func.isWrapper; first | (rw [if_pos (by decide +kernel)]; kernel_rfl) | (rw [if_neg (by decide +kernel)]; exact ⟨rfl, rfl⟩))
    (fun os started H enc _ => lifted os started H enc)

theorem proved : Rows.PhysBesideSaid :=
  over
#print axioms proved


end Go.Proofs.Ytmhkibdbamhdoaa.physBeside
