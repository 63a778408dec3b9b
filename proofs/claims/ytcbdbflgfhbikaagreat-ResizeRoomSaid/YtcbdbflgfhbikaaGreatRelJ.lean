/-
  Texts of one layer, one behind the other: memory, contracts of the functions, and what follows of them.
  Conditions: as each theorem says.
-/
import Derived.Test.YtcbdbflgfhbikaaGreatLRea
import Derived.Test.YtcbdbflgfhbikaaGreatLCae
set_option linter.unusedVariables false
set_option linter.unusedSimpArgs false
namespace Go.Proofs.YtcbdbflgfhbikaaGreat
open Go.RowKit
set_option maxRecDepth 100000
theorem own_put1 {w : World} {base g n cap size : Nat} {e : TypeId} {xs : List Value} (h : w.ownsRow base e size (.slice (some ⟨g, 0, none⟩) n cap) n xs) (j : Nat) (u : Value) : (w.setCell ⟨g, j, none⟩ u).ownsRow base e size (.slice (some ⟨g, 0, none⟩) n cap) n (xs.set j u) := by
  refine ⟨by rw [List.length_set]; exact h.1, ?_⟩
  rcases h.2 with ⟨h1, _⟩ | ⟨g', cap', cur, hv, hb, hgg, h3, h4, h5, h6⟩
  · cases h1
  · injection hv with e1 e2 e3
    injection e1 with e1
    injection e1 with e1
    subst e1 e3
    refine .inr ⟨g, cap, cur.setIfInBounds j u, rfl, hb, heap_setCell_same hgg u, h3, h4, by simp [h5], ?_⟩
    rw [← h6]
    simp [List.take_set]
theorem cellsB_put {A C : List Blk} {p b : Blk} : (((((cellsB (A ++ p :: C)).set (A.length * 5) (.int .u64 (b.off : Nat))).set (A.length * 5 + 1) (.int .u64 (b.s : Nat))).set (A.length * 5 + 2) (.bool b.u)).set (A.length * 5 + 3) (.int .i64 b.o)).set (A.length * 5 + 4) (.int .u64 (b.n : Nat)) = cellsB (A ++ b :: C) := by
  have e : ∀ q : Blk, cellsB (A ++ q :: C) = cellsB A ++ (q.row ++ cellsB C) := fun q => by simp [cellsB, List.flatMap_append]
  rw [e, e, ← cellsB_len A]
  rw [show (cellsB A).length = (cellsB A).length + 0 from rfl]
  rw [List.set_append_right _ _ (by omega), List.set_append_right _ _ (by omega), List.set_append_right _ _ (by omega), List.set_append_right _ _ (by omega), List.set_append_right _ _ (by omega)]
  simp [Blk.row]
theorem ownB_put {w : World} {base g n cap : Nat} {t : TypeId} {A C : List Blk} {p : Blk} (b : Blk) (h : OwnB w base t (.slice (some ⟨g, 0, none⟩) n cap) (A ++ p :: C)) (hn : (A ++ p :: C).length = n) {k : Nat} (hk : A.length = k) :
    OwnB (((((w.setCell ⟨g, k * 5, none⟩ (.int .u64 (b.off : Nat))).setCell ⟨g, k * 5 + 1, none⟩ (.int .u64 (b.s : Nat))).setCell ⟨g, k * 5 + 2, none⟩ (.bool b.u)).setCell ⟨g, k * 5 + 3, none⟩ (.int .i64 b.o)).setCell ⟨g, k * 5 + 4, none⟩ (.int .u64 (b.n : Nat))) base t (.slice (some ⟨g, 0, none⟩) n cap) (A ++ b :: C) := by
  subst hk
  unfold OwnB at h ⊢
  rw [hn] at h
  rw [show (A ++ b :: C).length = n by rw [← hn]; simp, ← cellsB_put (p := p)]
  exact own_put1 (own_put1 (own_put1 (own_put1 (own_put1 h _ _) _ _) _ _) _ _) _ _
theorem put5_grown (w : World) (g k : Nat) (x y z p q : Value) : w.grownBy (((((w.setCell ⟨g, k * 5, none⟩ x).setCell ⟨g, k * 5 + 1, none⟩ y).setCell ⟨g, k * 5 + 2, none⟩ z).setCell ⟨g, k * 5 + 3, none⟩ p).setCell ⟨g, k * 5 + 4, none⟩ q) (some g) :=
  grown_trans (grown_set _ _ _ _) (grown_trans (grown_set _ _ _ _) (grown_trans (grown_set _ _ _ _) (grown_trans (grown_set _ _ _ _) (grown_set _ _ _ _))))
theorem OwnB.spot {w : World} {base : Nat} {t : TypeId} {v : Value} {l : List Blk} (h : OwnB w base t v l) (h0 : 0 < l.length) : ∃ g c, v = .slice (some ⟨g, 0, none⟩) l.length c ∧ base ≤ g ∧ g < w.heap.size ∧ (∀ i, w.frozen? ⟨g, i, none⟩ = false) ∧
    ∀ k, k < l.length → w.cell? ⟨g, k * 5, none⟩ = some (.int .u64 (gO l k : Nat)) ∧ w.cell? ⟨g, k * 5 + 1, none⟩ = some (.int .u64 (gS l k : Nat)) ∧ w.cell? ⟨g, k * 5 + 2, none⟩ = some (.bool (gU l k)) ∧ w.cell? ⟨g, k * 5 + 3, none⟩ = some (.int .i64 (gW l k)) ∧ w.cell? ⟨g, k * 5 + 4, none⟩ = some (.int .u64 (gN l k : Nat)) := by
  rcases h.2 with ⟨h1, h2⟩ | ⟨g, cap, cur, hv, hbg, hg, rest⟩
  · omega
  · refine ⟨g, cap, hv, hbg, lt_of_block hg, fun i => by simp [World.frozen?, hg], fun k hk => ?_⟩
    have h' := h
    unfold OwnB at h'
    rw [hv] at h'
    have hl := cellsB_len l
    exact ⟨(World.ownsRow.cellAt h' (k * 5) (by omega)).trans (cellsB_at l k 0 hk (by decide)), (World.ownsRow.cellAt h' (k * 5 + 1) (by omega)).trans (cellsB_at l k 1 hk (by decide)), (World.ownsRow.cellAt h' (k * 5 + 2) (by omega)).trans (cellsB_at l k 2 hk (by decide)), (World.ownsRow.cellAt h' (k * 5 + 3) (by omega)).trans (cellsB_at l k 3 hk (by decide)), (World.ownsRow.cellAt h' (k * 5 + 4) (by omega)).trans (cellsB_at l k 4 hk (by decide))⟩
theorem joinK_len (bs : List Blk) : ∀ k, (joinK bs k).length ≤ k
  | 0 => Nat.le_refl _
  | k + 1 => by
    have ih := joinK_len bs k
    unfold joinK joinS
    split
    · split
      · simp only [List.length_append, List.length_dropLast, List.length_cons, List.length_nil]
        omega
      · simp; omega
    · simp; omega
theorem joinK_size {bs : List Blk} {S : Nat} (hbd : ∀ k, k < bs.length → gS bs k ≤ S) : ∀ k, k ≤ bs.length → ∀ p ∈ joinK bs k, p.s ≤ k * S
  | 0, _ => fun p hp => by cases hp
  | k + 1, h => fun p hp => by
    have ih := joinK_size hbd k (by omega)
    have hk : (bs.getD k default).s ≤ S := hbd k (by omega)
    rw [Nat.succ_mul]
    obtain ⟨c, hc⟩ : ∃ c, bs.getD k default = c := ⟨_, rfl⟩
    unfold joinK joinS at hp
    rw [hc] at hp hk
    split at hp
    · rename_i q hq
      split at hp
      · rcases List.mem_append.1 hp with hp | hp
        · have := ih p (List.dropLast_subset _ hp)
          omega
        · have := ih q (List.mem_of_getLast? hq)
          rw [List.mem_singleton.1 hp]
          exact Nat.add_le_add this hk
      · rcases List.mem_append.1 hp with hp | hp
        · have := ih p hp
          omega
        · rw [List.mem_singleton.1 hp]; omega
    · rcases List.mem_append.1 hp with hp | hp
      · have := ih p hp
        omega
      · rw [List.mem_singleton.1 hp]; omega
set_option maxHeartbeats 8000000 in
theorem rjoined_any {w : World} {la : Option Addr} {n c : Nat} {bs : List Blk} (hb : BlksAt w la bs) (hn' : bs.length = n) (hn : n ≤ 1000) (hbd : ∀ k, k < bs.length → gS bs k ≤ 10000000) :
    Calls Tryz.prog 72 #[.slice la n c] w fun e w' => ∃ v, e = .returned v ∧ OwnB w' w.heap.size 61 v (joinB bs) ∧ w.grownBy w' none := by
  have HN := Lib.hid hn'
  have HB := Lib.hid hb
  have HSZ := Lib.hid (joinK_size hbd)
  have HBD := Lib.hid hbd
  rw [← joinK_all bs, hn']
  obtain ⟨z, hz⟩ : ∃ z, joinK bs n = z := ⟨_, rfl⟩
  rw [hz]
  have HZ := Lib.hid hz
  clear hb hn' hbd hz
  go_enter Tryz.func72, Tryz.ntmps72
  go_wp2
  go_loopw [4, 3] (fun i v wr => ∃ k : Nat, k ≤ n ∧ i = .int .i64 k ∧ OwnB wr w.heap.size 61 v (joinK bs k) ∧ w.grownBy wr none) (fun i _ _ => n - (intOf i).toNat)
  case atStart => exact ⟨0, Nat.zero_le _, rfl, World.ownsRow_nil _ _ _ _, grown_refl _ _⟩
  case round =>
    obtain ⟨k, hk, rfl, hown, hgr⟩ := hrel
    have hsw := hgr.size
    rcases Nat.lt_or_ge k n with h1 | h1
    · have h1' : (k : Int) < (n : Int) := by omega
      obtain ⟨bb, off, rfl, hbb, hcs⟩ := (HB.out.later hgr).cells (by rw [HN.out]; omega)
      obtain ⟨c0, c1, c2, c3, c4⟩ := hcs k (by rw [HN.out]; exact h1)
      have hnext : joinK bs (k + 1) = joinS (joinK bs k) (bs.getD k default) := rfl
      have hlen := joinK_len bs k
      have hszk := HSZ.out k (by rw [HN.out]; omega)
      have hsz2 : (bs.getD k default).s ≤ 10000000 := HBD.out k (by rw [HN.out]; omega)
      obtain ⟨out, ho⟩ : ∃ out, joinK bs k = out := ⟨_, rfl⟩
      rw [ho] at hown hnext hlen hszk
      obtain ⟨q, hq⟩ : ∃ q, bs.getD k default = q := ⟨_, rfl⟩
      unfold gO at c0
      unfold gS at c1
      unfold gU at c2
      unfold gW at c3
      unfold gN at c4
      rw [hq] at c0 c1 c2 c3 c4 hnext hsz2
      obtain ⟨x0, x1, x2, x3, x4⟩ := q
      simp only at c0 c1 c2 c3 c4 hsz2
      have HOWN := Lib.hid hown
      clear hcs ho hq
      rcases List.eq_nil_or_concat out with e | ⟨X, p, e⟩
      · subst e
        have HNX := Lib.hid hnext
        obtain ⟨va, vc, hv, _⟩ := hown.at_
        replace hv : _ = Value.slice va 0 vc := hv
        subst hv
        clear hown hnext hszk hsz2
        go_wp2_with (at_builtin; go_must (refine wpList_append_blk (l := []) rfl HOWN.out (by decide) hsw ⟨x0, x1, x2, x3, x4⟩ rfl _ _ rfl rfl rfl rfl ?_); intro g cp w8 hrow8 hg8 hloc)
        go_roundw
        case rel => exact ⟨k + 1, by omega, by go_num, by rw [HNX.out]; exact hrow8, grown_step hgr hg8 (fun i hi => .inl (World.ownsRow.lt HOWN.out i hi).1)⟩
        case measure => simp [intOf]; omega
      · rw [List.concat_eq_append] at e
        subst e
        have hsz := hszk p (by simp)
        clear hszk
        obtain ⟨g, cp, hv, hbg, hgw, hfz, hat⟩ := hown.spot (by simp)
        obtain ⟨m, hm⟩ : ∃ m, X.length = m := ⟨_, rfl⟩
        have hxl : (X ++ [p]).length = m + 1 := by simp [hm]
        rw [hxl] at hv hlen
        subst hv
        obtain ⟨d0, d1, d2, d3, d4⟩ := hat m (by omega)
        have hpm : (X ++ [p]).getD m default = p := by rw [← hm, List.getD_eq_getElem?_getD, List.getElem?_append_right (Nat.le_refl _), Nat.sub_self]; rfl
        unfold gO at d0
        unfold gS at d1
        unfold gU at d2
        unfold gW at d3
        unfold gN at d4
        rw [hpm] at d0 d1 d2 d3 d4
        obtain ⟨p0, p1, p2, p3, p4⟩ := p
        simp only at d0 d1 d2 d3 d4
        have em : IntKind.i64.wrap (((m + 1 : Nat) : Int) - 1) = (m : Nat) := by rw [IntKind.wrap_i64]; omega
        have HM := Lib.hid hm
        have HXL := Lib.hid hxl
        clear hat hpm hown hm hxl
        cases p2 with
        | true =>
          rw [joinS_apart (fun q hq => by rw [List.getLast?_concat] at hq; injection hq with hq; rw [← hq]; exact .inl rfl)] at hnext
          have HNX := Lib.hid hnext
          clear hnext hsz hsz2
          go_wp2_with (at_builtin; go_must (refine wpList_append_blk (l := X ++ [⟨p0, p1, true, p3, p4⟩]) HXL.out HOWN.out (by rw [HXL.out]; omega) hsw ⟨x0, x1, x2, x3, x4⟩ rfl _ _ rfl rfl rfl rfl ?_); intro g2 cp2 w8 hrow8 hg8 hloc)
          go_roundw
          case rel => exact ⟨k + 1, by omega, by go_num, by rw [HNX.out]; exact hrow8, grown_step hgr hg8 (fun i hi => .inl (World.ownsRow.lt HOWN.out i hi).1)⟩
          case measure => simp [intOf]; omega
        | false =>
          cases x2 with
          | true =>
            rw [joinS_apart (fun q hq => .inr rfl)] at hnext
            have HNX := Lib.hid hnext
            clear hnext hsz hsz2
            go_wp2_with (at_builtin; go_must (refine wpList_append_blk (l := X ++ [⟨p0, p1, false, p3, p4⟩]) HXL.out HOWN.out (by rw [HXL.out]; omega) hsw ⟨x0, x1, true, x3, x4⟩ rfl _ _ rfl rfl rfl rfl ?_); intro g2 cp2 w8 hrow8 hg8 hloc)
            go_roundw
            case rel => exact ⟨k + 1, by omega, by go_num, by rw [HNX.out]; exact hrow8, grown_step hgr hg8 (fun i hi => .inl (World.ownsRow.lt HOWN.out i hi).1)⟩
            case measure => simp [intOf]; omega
          | false =>
            rw [joinS_snoc rfl rfl] at hnext
            have HNX := Lib.hid hnext
            have hz1 : p1 ≤ k * 10000000 := hsz
            have ez : IntKind.u64.wrap ((p1 : Int) + (x1 : Int)) = ((p1 + x1 : Nat) : Int) := by
              have : p1 ≤ 1000 * 10000000 := Nat.le_trans hz1 (Nat.mul_le_mul_right _ (by omega))
              rw [IntKind.wrap_u64]
              omega
            obtain ⟨z1, ez1⟩ : ∃ z1, p1 + x1 = z1 := ⟨_, rfl⟩
            rw [ez1] at ez
            have HEZ := Lib.hid ez1
            clear hnext hsz hsz2 hz1 ez1
            go_wp2
            have BX := heap_alloc_new' wr (.cells #[.int .u64 p0, .int .u64 p1, .bool false, .int .i64 p3, .int .u64 p4] 61)
            have ga := World.grownBy_alloc wr (.cells #[.int .u64 p0, .int .u64 p1, .bool false, .int .i64 p3, .int .u64 p4] 61) none
            obtain ⟨W1, hW1⟩ : ∃ W1, wr.alloc (.cells #[.int .u64 p0, .int .u64 p1, .bool false, .int .i64 p3, .int .u64 p4] 61) = W1 := ⟨_, rfl⟩
            obtain ⟨b1, hb1⟩ : ∃ b1, wr.heap.size = b1 := ⟨_, rfl⟩
            rw [hW1, hb1] at BX
            rw [hW1] at ga
            rw [hW1, hb1]
            have HG : W1.grownBy W1.drew none := grown_drew (grown_refl _ _)
            have BX2 := (HG.block _ (lt_of_block BX) (by simp)).trans BX
            obtain ⟨l0, l1, l2, l3, l4⟩ := five_cells BX2
            obtain ⟨f0, f1, f2, f3, f4⟩ := five_frozen BX2
            have G2 := grown_trans ga HG
            have s1 : W1.drew.cell? ⟨bb, off + k * 5 + 1, none⟩ = some (.int .u64 x1) := (World.cell?_of_block (a := ⟨bb, off + k * 5 + 1, none⟩) (G2.block bb hbb (by simp))).trans c1
            have hown1 := HOWN.out.later ga
            have hgb : (Value.slice (some ⟨g, 0, none⟩) (m + 1) cp).ownBlock ≠ some b1 := fun e => by
              injection e with e
              have : g = b1 := e
              omega
            have hs1 := grown_set W1 b1 1 (.int .u64 z1)
            have hd1 : (W1.setCell ⟨b1, 1, none⟩ (.int .u64 z1)).grownBy (W1.setCell ⟨b1, 1, none⟩ (.int .u64 z1)).drew none := grown_drew (grown_refl _ _)
            have hown2 : OwnB (W1.setCell ⟨b1, 1, none⟩ (.int .u64 z1)) w.heap.size 61 (.slice (some ⟨g, 0, none⟩) (m + 1) cp) (X ++ [⟨p0, p1, false, p3, p4⟩]) := World.ownsRow.kept hown1 hs1 (.inr hgb)
            have BX3 : (W1.setCell ⟨b1, 1, none⟩ (.int .u64 z1)).heap[b1]? = some (.cells #[.int .u64 p0, .int .u64 z1, .bool false, .int .i64 p3, .int .u64 p4] 61 (0, 0)) := by rw [heap_setCell_same BX]; rfl
            obtain ⟨r0, r1, r2, r3, r4⟩ := five_cells ((hd1.block _ (lt_of_block BX3) (by simp)).trans BX3)
            obtain ⟨_, cur, hbk⟩ := row_block hown1 (g := g) rfl
            have hgw2 := lt_of_block hbk
            have hfz2 : ∀ i, W1.frozen? ⟨g, i, none⟩ = false := fun i => by simp [World.frozen?, hbk]
            have hgg := ga.block g hgw (by simp)
            have t0 := (World.cell?_of_block (a := ⟨g, m * 5, none⟩) hgg).trans d0
            have t1 := (World.cell?_of_block (a := ⟨g, m * 5 + 1, none⟩) hgg).trans d1
            have t2 := (World.cell?_of_block (a := ⟨g, m * 5 + 2, none⟩) hgg).trans d2
            have t3 := (World.cell?_of_block (a := ⟨g, m * 5 + 3, none⟩) hgg).trans d3
            have t4 := (World.cell?_of_block (a := ⟨g, m * 5 + 4, none⟩) hgg).trans d4
            have f5 := hfz2 (m * 5)
            have f6 := hfz2 (m * 5 + 1)
            have f7 := hfz2 (m * 5 + 2)
            have f8 := hfz2 (m * 5 + 3)
            have f9 := hfz2 (m * 5 + 4)
            have n1 : ¬ g = b1 := by omega
            have n2 : ¬ b1 = g := by omega
            have hput := ownB_put (C := []) ⟨p0, z1, false, p3, p4⟩ hown2 HXL.out HM.out
            have hgr2 : w.grownBy (W1.setCell ⟨b1, 1, none⟩ (.int .u64 z1)) none := grown_step (grown_trans hgr ga) hs1 (fun i hi => .inl (by injection hi with hi; omega))
            have hgr3 := grown_step hgr2 (put5_grown (W1.setCell ⟨b1, 1, none⟩ (.int .u64 z1)) g m (.int .u64 p0) (.int .u64 z1) (.bool false) (.int .i64 p3) (.int .u64 p4)) (fun i hi => .inl (by injection hi with hi; omega))
            simp only at hput
            obtain ⟨W9, hW9⟩ : ∃ W9, ((((((W1.setCell ⟨b1, 1, none⟩ (.int .u64 z1)).setCell ⟨g, m * 5, none⟩ (.int .u64 p0)).setCell ⟨g, m * 5 + 1, none⟩ (.int .u64 z1)).setCell ⟨g, m * 5 + 2, none⟩ (.bool false)).setCell ⟨g, m * 5 + 3, none⟩ (.int .i64 p3)).setCell ⟨g, m * 5 + 4, none⟩ (.int .u64 p4)) = W9 := ⟨_, rfl⟩
            rw [hW9] at hput hgr3
            have hd9 : W9.grownBy W9.drew none := grown_drew (grown_refl _ _)
            replace hput := OwnB.later hput hd9
            replace hgr3 := grown_trans hgr3 hd9
            have HPUT := Lib.hid hput
            have HGR3 := Lib.hid hgr3
            clear hfz hfz2 hput hgr3 hown1 hown2 hgr2 hs1 hgg hbk
            go_region_law (fail)
            all_goals
              clear l0 l1 l2 l3 l4 f0 f1 f2 f3 f4 s1
              go_wp2
              go_roundw
              case rel => exact ⟨k + 1, by omega, by go_num, by rw [HNX.out, HEZ.out]; exact HPUT.out, HGR3.out⟩
              case measure => simp [intOf]; omega
    · obtain rfl : k = n := by omega
      rw [HZ.out] at hown
      obtain ⟨va, vc, hv, _⟩ := hown.at_
      have HOWN := Lib.hid hown
      subst hv
      obtain ⟨zl, hzl⟩ : ∃ zl, z.length = zl := ⟨_, rfl⟩
      rw [hzl] at HOWN ⊢
      clear hown hzl
      go_wp2
      go_ret
      exact ⟨_, rfl, HOWN.out, hgr⟩
end Go.Proofs.YtcbdbflgfhbikaaGreat
