/-
  Texts of one layer, one behind the other: memory, contracts of the functions, and what follows of them.
  Conditions: as each theorem says.
-/
import Derived.Test.YtmcnpenihoaajaaGreatLPha
import Derived.Test.YtmcnpenihoaajaaGreatLHea
import Derived.Test.YtmcnpenihoaajaaGreatLTaa
set_option linter.unusedVariables false
set_option linter.unusedSimpArgs false
namespace Go.Proofs.YtmcnpenihoaajaaGreat
open Go.RowKit Go.Shelf
attribute [local go_sem] Oper.semAt_some
theorem info_blk : (Tryz.prog.info? 128).map (fun i => (i.zero, i.size, i.bytes)) = some (some (.agg #[.int .u64 0, .int .u64 0, .bool false, .int .i64 0, .int .u64 0]), 5, 40) := by kernel_rfl
def Xo (f : Nat → Nat) (k : Nat) : Nat := (bkR f (offs f k)).off
def Xs (f : Nat → Nat) (k : Nat) : Nat := (bkR f (offs f k)).s
def Xu (f : Nat → Nat) (k : Nat) : Bool := (bkR f (offs f k)).u
def Xw (f : Nat → Nat) (k : Nat) : Int := (bkR f (offs f k)).o
def Xn (f : Nat → Nat) (k : Nat) : Nat := (bkR f (offs f k)).n
def Xe (f : Nat → Nat) (k : Nat) : Nat := bkE f (offs f k)
theorem Xrow (f : Nat → Nat) (k : Nat) : (bkR f (offs f k)).row = [.int .u64 (Xo f k : Nat), .int .u64 (Xs f k : Nat), .bool (Xu f k), .int .i64 (Xw f k), .int .u64 (Xn f k : Nat)] := rfl
theorem Xe_or (f : Nat → Nat) (k : Nat) : Xe f k = 0 ∨ Xe f k = 12 := by
  unfold Xe bkE
  split
  · exact .inl rfl
  · exact .inr rfl
theorem cells_five_new (W : World) (t : TypeId) (x y z p q : Value) : ∀ j u, [x, y, z, p, q][j]? = some u → (W.alloc (.cells #[x, y, z, p, q] t)).cell? ((⟨W.heap.size, 0, none⟩ : Addr).add j) = some u := by
  intro j u hj
  have hb : (W.alloc (.cells #[x, y, z, p, q] t)).heap[W.heap.size]? = some (.cells #[x, y, z, p, q] t (0, 0)) := heap_alloc_new' _ _
  have hadd : ∀ j, (⟨W.heap.size, 0, none⟩ : Addr).add j = ⟨W.heap.size, j, none⟩ := fun j => by unfold Addr.add; split <;> simp_all
  rw [hadd]
  unfold World.cell?
  simp only [hb]
  rcases j with _ | _ | _ | _ | _ | j
  all_goals first | (simp at hj; subst hj; rfl) | (simp at hj)
def cellsK (f : Nat → Nat) (pre : List Nat) : List Value := cellsB (pre.map fun k => bkR f (offs f k))
theorem cellsK_snoc (f : Nat → Nat) (pre : List Nat) (k : Nat) : cellsK f (pre ++ [k]) = cellsK f pre ++ (bkR f (offs f k)).row := by
  unfold cellsK
  rw [List.map_append]
  exact cellsB_snoc _ _
theorem cellsK_all {f : Nat → Nat} {N : Nat} {ok : Bool} (h : Walks f N ok) : cellsK f (List.range N) = cellsB (blks f N) := by
  unfold cellsK blks
  congr 1
  refine List.map_congr_left fun k hk => ?_
  exact (bk_yes (h.lt k (List.mem_range.1 hk)).2).1
def OwnB (w : World) (base : Nat) (t : TypeId) (v : Value) (l : List Blk) : Prop := w.ownsRow base t 5 v l.length (cellsB l)
structure WkI (w : World) (r2 lb : Nat) (f : Nat → Nat) (pre : List Nat) (W : World) : Prop where
  row : ∃ v, Boxed W lb 63 v ∧ W.ownsRow w.heap.size 128 5 v pre.length (cellsK f pre) ∧ (v = .slice none 0 0 ↔ pre = [])
  good : ∀ k, k ∈ pre → bkE f (offs f k) = 0
  below : Below w.heap.size w W
  res2 : Boxed W r2 63 (.slice none 0 0)
  res3 : Boxed W (r2 + 1) 27 (.int .i64 0)
structure WkX (w : World) (r2 : Nat) (f : Nat → Nat) (c : Code) (pre : List Nat) (W : World) : Prop where
  jump : c = .ret
  bad : ∃ k, k ∈ pre ∧ bkE f (offs f k) = 12
  below : Below w.heap.size w W
  res2 : Boxed W r2 63 (.slice none 0 0)
  res3 : Boxed W (r2 + 1) 27 (.int .i64 12)
theorem boxed_from (n B : Nat) (t : TypeId) (v : Value) {β : Type} : OwnFrom n (fun (_ : β) W => Boxed W B t v) := fun s X Y row hs hg hr => by
  refine (hg.block B (lt_of_block hs) (fun e => ?_)).trans hs
  obtain ⟨_, o, ho, hc⟩ := hr B e.symm
  rw [show X.heap[B]? = _ from hs] at ho; cases ho; cases hc
theorem WkI.own (w : World) (n r2 lb : Nat) (f : Nat → Nat) (hn : w.heap.size ≤ n) : OwnFrom n (WkI w r2 lb f) := fun s X Y row hs hg hr => by
  refine ⟨?_, hs.good, ?_, boxed_from n _ _ _ s X Y row hs.res2 hg hr, boxed_from n _ _ _ s X Y row hs.res3 hg hr⟩
  · exact Own.from (holdsRow_own w.heap.size lb 63 128 5 (fun pre : List Nat => pre.length) (fun pre => cellsK f pre) (fun pre v => v = .slice none 0 0 ↔ pre = [])) n s X Y row hs.row hg hr
  · exact hs.below.grown hg hs.below.size (fun k e => Nat.le_trans hn (hr k e).1)
theorem WkX.own (w : World) (n r2 : Nat) (f : Nat → Nat) (hn : w.heap.size ≤ n) (c : Code) : OwnFrom n (WkX w r2 f c) := fun s X Y row hs hg hr => by
  refine ⟨hs.jump, hs.bad, ?_, boxed_from n _ _ _ s X Y row hs.res2 hg hr, boxed_from n _ _ _ s X Y row hs.res3 hg hr⟩
  exact hs.below.grown hg hs.below.size (fun k e => Nat.le_trans hn (hr k e).1)
theorem row_form {w : World} {base : Nat} {t : TypeId} {sz k : Nat} {v : Value} {xs : List Value} (h : w.ownsRow base t sz v k xs) : ∃ a n c, v = .slice a n c := by
  rcases h.2 with ⟨hv, _⟩ | ⟨g, cap, cur, hv, _⟩
  · exact ⟨_, _, _, hv⟩
  · exact ⟨_, _, _, hv⟩
theorem bk_appended {W w1 : World} {n0 base lb k cap g : Nat} {t e : TypeId} {v : Value} {tmp : Obj} {ys : List Value} (hv : Boxed W lb t v) (hb2 : Below n0 W (w1.setCell ⟨lb, 0, none⟩ (.slice (some ⟨g, 0, none⟩) (k + 1) cap)))
    (hv2 : Boxed (w1.setCell ⟨lb, 0, none⟩ (.slice (some ⟨g, 0, none⟩) (k + 1) cap)) lb t (.slice (some ⟨g, 0, none⟩) (k + 1) cap)) (hown : w1.ownsRow base e 5 (.slice (some ⟨g, 0, none⟩) (k + 1) cap) (k + 1) ys) (hgrow : (W.alloc tmp).grownBy w1 v.ownBlock) (hf : k = 0 → W.heap.size ≤ base) :
    BkKeep n0 lb W (w1.setCell ⟨lb, 0, none⟩ (.slice (some ⟨g, 0, none⟩) (k + 1) cap)) := by
  have hcv : W.cell? ⟨lb, 0, none⟩ = some v := cell_of_one hv
  have hga := World.grownBy_alloc W tmp none
  have hs1 := hga.size
  have hs2 := hgrow.size
  have hs3 : w1.heap.size ≤ (w1.setCell ⟨lb, 0, none⟩ (.slice (some ⟨g, 0, none⟩) (k + 1) cap)).heap.size := (grown_set w1 lb 0 _).size
  refine ⟨hb2, fun b hb hn hr => ?_, fun b hb => ?_⟩
  · have hlt := hb.lt
    refine ((grown_set w1 lb 0 _).block b (by omega) (fun e => hn (by injection e))).trans ?_
    refine (hgrow.block b (by omega) (fun e => hr ⟨v, hcv, e.symm⟩)).trans ?_
    exact hga.block b hlt (by simp)
  · obtain ⟨u, h1, h2⟩ := hb
    rw [cell_of_one hv2] at h1
    injection h1 with h1
    subst h1
    have hgb : g = b := by simpa [Value.ownBlock] using h2
    subst hgb
    rcases hown.2 with ⟨he, _⟩ | ⟨g2, cap2, cur, heq, hbg, hg, hnc, hcm, hcs, htake⟩
    · cases he
    · injection heq with e1 e2 e3
      injection e1 with e1
      injection e1 with e1
      subst e1
      subst e3
      have hltg := lt_of_block hg
      by_cases hW : W.heap.size ≤ g
      · exact .inr (.inl ⟨hW, by omega⟩)
      · have hk : k ≠ 0 := fun e => hW (Nat.le_trans (hf e) hbg)
        by_cases hvg : v.ownBlock = some g
        · exact .inl ⟨v, hcv, hvg⟩
        · refine .inr (.inr (.inr ⟨by omega, fun hs => ?_⟩))
          obtain ⟨c, t', fr, hc, hsz⟩ := hs
          have h5 := (hgrow.block g (by omega) (fun e => hvg e.symm)).trans ((hga.block g (by omega) (by simp)).trans hc)
          rw [hg] at h5
          cases h5
          rw [hcs] at hsz
          omega
section
variable {w : World} {T M : Nat} {R : Option Nat} {B D : Nat} {ws : List Nat} {l : List (Nat × Nat)}
set_option maxRecDepth 100000 in
set_option maxHeartbeats 4000000 in
theorem pwalk_in (h : Thinks w T M R B D ws l) {N : Nat} {ok : Bool} (hc : chkN ws l = 0) (hw : Walks (txSee ws l) N ok) (hN : N ≤ 1000000) :
    CallsIn Fence.wide 6 Tryz.prog 46 #[.pointer (some ⟨T, 0, none⟩)] w fun e w' => ∃ v, e = .returned (.tuple #[v, .int .i64 (wkE ok : Nat)]) ∧ OwnB w' w.heap.size 128 v (wkL (txSee ws l) N ok) ∧ w.grownBy w' none := by
  obtain ⟨i0, hi, hz0, hz1, hz2⟩ := info_parts info_blk
  obtain ⟨f, ef⟩ : ∃ f, txSee ws l = f := ⟨_, rfl⟩
  rw [ef] at hw ⊢
  have hg0 : w.grownBy ((w.alloc (.cells #[.slice none 0 0] 63)).alloc (.cells #[.int .i64 0] 27)) none := grown_trans (World.grownBy_alloc _ _ _) (World.grownBy_alloc _ _ _)
  have hck := (callsIn_wide (n := 5)).2 (hcheck_any (h.later hg0))
  rw [hc] at hck
  simp only [show ((0 : Nat) : Int) = 0 from rfl] at hck
  have hb2 : ((w.alloc (.cells #[.slice none 0 0] 63)).alloc (.cells #[.int .i64 0] 27)).heap[w.heap.size]? = some (.cells #[.slice none 0 0] 63 (0, 0)) :=
    (Below.heap_alloc _ _ _ (by simp)).trans (heap_alloc_new' w _)
  have hb3 : ((w.alloc (.cells #[.slice none 0 0] 63)).alloc (.cells #[.int .i64 0] 27)).heap[w.heap.size + 1]? = some (.cells #[.int .i64 0] 27 (0, 0)) := by
    have := heap_alloc_new' (w.alloc (.cells #[.slice none 0 0] 63)) (.cells #[.int .i64 0] 27)
    rwa [World.size_alloc] at this
  have hs0 : ((w.alloc (.cells #[.slice none 0 0] 63)).alloc (.cells #[.int .i64 0] 27)).heap.size = w.heap.size + 2 := by simp
  refine callsIn_of_wp_marks Tryz.func46 rfl trivial ?_ rfl
  simp only [Tryz.ntmps46, List.size_toArray, List.length_cons, List.length_nil, Nat.reduceAdd, Nat.reduceSub, Array.replicate_succ, Array.replicate_zero, List.push_toArray, List.append_toArray, List.nil_append, List.cons_append]
  gi_wp2_with (first | (refine ⟨trivial, ?_⟩; gi_at_call 79; (with_reducible refine hck.mono ?_); rintro e w1 ⟨rfl, hg1⟩) | (refine ⟨trivial, ?_⟩; gi_at_call 80; refine (callsIn_wide.2 (blocks_any _ _)).mono ?_; rintro e w2 ⟨rfl, rfl⟩))
  have hsz1 := hg1.size
  rw [hs0] at hsz1
  have hb2' := (hg1.block _ (lt_of_block hb2) (by simp)).trans hb2
  have hb3' := (hg1.block _ (lt_of_block hb3) (by simp)).trans hb3
  have hgA : w1.grownBy ((w1.alloc (.cells #[.slice none 0 0] 63)).alloc (.cells #[.pointer (some ⟨T, 0, none⟩)] 66)) none := grown_trans (World.grownBy_alloc _ _ _) (World.grownBy_alloc _ _ _)
  have hG0 := grown_trans hg0 (grown_trans hg1 hgA)
  have hbl : ((w1.alloc (.cells #[.slice none 0 0] 63)).alloc (.cells #[.pointer (some ⟨T, 0, none⟩)] 66)).heap[w1.heap.size]? = some (.cells #[.slice none 0 0] 63 (0, 0)) :=
    (Below.heap_alloc _ _ _ (by simp)).trans (heap_alloc_new' w1 _)
  have hbx : ((w1.alloc (.cells #[.slice none 0 0] 63)).alloc (.cells #[.pointer (some ⟨T, 0, none⟩)] 66)).heap[w1.heap.size + 1]? = some (.cells #[.pointer (some ⟨T, 0, none⟩)] 66 (0, 0)) := by
    have := heap_alloc_new' (w1.alloc (.cells #[.slice none 0 0] 63)) (.cells #[.pointer (some ⟨T, 0, none⟩)] 66)
    rwa [World.size_alloc] at this
  have hszA : ((w1.alloc (.cells #[.slice none 0 0] 63)).alloc (.cells #[.pointer (some ⟨T, 0, none⟩)] 66)).heap.size = w1.heap.size + 2 := by simp
  have hbA2 := (hgA.block _ (lt_of_block hb2') (by simp)).trans hb2'
  have hbA3 := (hgA.block _ (lt_of_block hb3') (by simp)).trans hb3'
  obtain ⟨W0, hW0⟩ : ∃ W0, (w1.alloc (.cells #[.slice none 0 0] 63)).alloc (.cells #[.pointer (some ⟨T, 0, none⟩)] 66) = W0 := ⟨_, rfl⟩
  rw [hW0] at hG0 hbl hbx hszA hbA2 hbA3 ⊢
  clear hW0 hgA hb2 hb3 hb2' hb3' hg0 hg1 hck hs0
  obtain ⟨lb, elb⟩ : ∃ lb, w1.heap.size = lb := ⟨_, rfl⟩
  rw [elb] at hbl hbx hszA hsz1 ⊢
  clear elb
  have hseq0 := blocks_stops h (lb + 1) lb (by rw [ef]; exact hw) (grown_below hG0) hbx (by omega) (by omega) (fun b hb => by
    obtain ⟨v, h1, h2⟩ := hb
    have h3 : W0.cell? ⟨lb, 0, none⟩ = some (.slice none 0 0) := cell_of_one hbl
    rw [h3] at h1
    cases h1
    cases h2)
  rw [ef] at hseq0
  have hseq : SeqStopsK Fence.wide 5 Tryz.prog 119 #[.pointer (some ⟨lb + 1, 0, none⟩)] (fun x => #[.agg #[.int .u64 (Xo f x : Nat), .int .u64 (Xs f x : Nat), .bool (Xu f x), .int .i64 (Xw f x), .int .u64 (Xn f x : Nat)], .int .i64 (Xe f x : Nat)]) (BkKeep w.heap.size lb) (fun ys => ys = List.range (bkN N ok)) (fun pre => ∃ m, m ≤ bkN N ok ∧ pre = List.range m) (bkN N ok) W0 := hseq0
  clear hseq0 ef
  refine wpIn_rangeFunc_ownH rfl (by decide) (gf := 119) (lb := #[.pointer (some ⟨lb + 1, 0, none⟩)]) rfl trivial (enters_of Tryz.func119 (by kernel_rfl) rfl) hseq (fun h k => BkKeep.trans h k) (fun W l o o' hl h hc hw => BkKeep.put (by omega) hG0.size W l o o' hl h hc hw) (Below.refl _ _) (fun _ => rfl)
    (WkI w w.heap.size lb f)
    (WkX w w.heap.size f)
    (WkI.own w _ _ _ _ hG0.size)
    (WkX.own w _ _ _ hG0.size)
    ⟨⟨_, hbl, World.ownsRow_nil _ _ _ _, by simp⟩, fun k hk => absurd hk List.not_mem_nil, grown_below hG0, hbA2, hbA3⟩
    (fun x a' W => ∃ Bx, W.heap[Bx]? = some (.cells #[.int .u64 (Xo f x : Nat), .int .u64 (Xs f x : Nat), .bool (Xu f x), .int .i64 (Xw f x), .int .u64 (Xn f x : Nat)] 128 (0, 0)) ∧ a' = { tmps := #[.pointer (some ⟨T, 0, none⟩), undef, .pointer (some ⟨w.heap.size, 0, none⟩), .pointer (some ⟨w.heap.size + 1, 0, none⟩), .int .i64 0, .pointer (some ⟨lb, 0, none⟩), .pointer (some ⟨Bx, 0, none⟩), .int .i64 (Xe f x : Nat), .pointer (some ⟨T, 0, none⟩), .int .i64 0, .int .i64 0, .bool false, undef, .pointer (some ⟨T, 0, none⟩), .func (.func 119) #[] #[.pointer (some ⟨lb + 1, 0, none⟩)], .agg #[.int .u64 (Xo f x : Nat), .int .u64 (Xs f x : Nat), .bool (Xu f x), .int .i64 (Xw f x), .int .u64 (Xn f x : Nat)], .int .i64 (Xe f x : Nat), undef, undef, undef, undef, undef, undef, undef, undef], defers := [] })
    (fun x a' _ X Y row hs hg hr => by
      obtain ⟨Bx, h2, h3⟩ := hs
      refine ⟨Bx, (hg.block Bx (lt_of_block h2) (fun e => ?_)).trans h2, h3⟩
      obtain ⟨_, o, ho, hc⟩ := hr Bx e.symm
      rw [h2] at ho; cases ho; cases hc)
    ?assign ?body ?done ?stop
  case assign =>
    rintro yl pre x W K hI hK
    obtain ⟨v, hv, hrow, hnil⟩ := hI.row
    have hlbW := lt_of_block hv
    gi_wp2
    have hga := World.grownBy_alloc W (.cells #[.int .u64 (Xo f x : Nat), .int .u64 (Xs f x : Nat), .bool (Xu f x), .int .i64 (Xw f x), .int .u64 (Xn f x : Nat)] 128) none
    exact hK _ _ ((KeepsOthers.alloc _ _).from _) (BkKeep.alloc _ _ hI.below.size hlbW) ⟨⟨v, hv.alloc _, hrow.alloc _, hnil⟩, hI.good, hI.below.alloc hI.below.size _, hI.res2.alloc _, hI.res3.alloc _⟩ ⟨W.heap.size, heap_alloc_new' _ _, rfl⟩
  case body =>
    rintro yl pre x a' W hl ⟨r, hr⟩ hI ⟨Bx, bX, rfl⟩ hlt
    obtain ⟨v, hv, hrow, hnil⟩ := hI.row
    have hc := hv.cell
    obtain ⟨x0, x1, x2, x3, x4⟩ := five_cells bX
    rcases Xe_or f x with he | he
    · have he' : ((Xe f x : Nat) : Int) = 0 := by rw [he]; rfl
      rw [he']
      have hpl : pre.length ≤ 1000001 := by unfold bkN at hlt; split at hlt <;> omega
      obtain ⟨base, hbase1, hbase2, hrow', hfresh⟩ : ∃ base, w.heap.size ≤ base ∧ base ≤ W.heap.size ∧ W.ownsRow base 128 5 v pre.length (cellsK f pre) ∧ (pre.length = 0 → W.heap.size ≤ base) := by
        by_cases hp : pre = []
        · refine ⟨W.heap.size, hI.below.size, Nat.le_refl _, ?_, fun _ => Nat.le_refl _⟩
          rw [hnil.2 hp, hp]
          exact World.ownsRow_nil _ _ _ _
        · exact ⟨w.heap.size, Nat.le_refl _, hI.below.size, hrow, fun e => absurd (List.length_eq_zero_iff.1 e) hp⟩
      have hle : w.heap.size ≤ lb := by omega
      gi_wp2_with (gi_at_builtin; go_must (refine wpListIn_append_own _ rfl _ _ 63 rfl base 128 i0 (.agg #[.int .u64 0, .int .u64 0, .bool false, .int .i64 0, .int .u64 0]) 5 40 Tryz.underlying63 hi hz0 hz1 hz2 rfl (by decide) _ _ _ rfl (hrow'.alloc _) ⟨W.heap.size, 0, none⟩ 1 1 [.int .u64 (Xo f x : Nat), .int .u64 (Xs f x : Nat), .bool (Xu f x), .int .i64 (Xw f x), .int .u64 (Xn f x : Nat)] rfl rfl (cells_five_new _ _ _ _ _ _ _) (by simp [Value.oneCell']) (by unfold maxLen; omega) (by omega) (by simp; omega) ?_); intro v' w1 hown' hgrow _; obtain ⟨g', cap', rfl⟩ := ownsRow_succ hown'; obtain ⟨hv1, hv2, hr2, hk2, hb2⟩ := hv.appended (by decide) hrow hI.below.size hle (World.ownsRow.mono hown' hbase1) hgrow; have hc1 := hv1.cell; have hf1 := hv1.frozen)
      have k2 : Boxed (w1.setCell ⟨lb, 0, none⟩ (.slice (some ⟨g', 0, none⟩) (pre.length + 1) cap')) w.heap.size 63 (.slice none 0 0) := ((hI.res2.alloc _).kept hgrow (hI.res2.not_row (by decide) hrow)).kept (grown_set _ _ _ _) (by simp; omega)
      have k3 : Boxed (w1.setCell ⟨lb, 0, none⟩ (.slice (some ⟨g', 0, none⟩) (pre.length + 1) cap')) (w.heap.size + 1) 27 (.int .i64 0) := ((hI.res3.alloc _).kept hgrow (hI.res3.not_row (by decide) hrow)).kept (grown_set _ _ _ _) (by simp; omega)
      refine ⟨hk2.from _, bk_appended hv hb2 hv2 hown' hgrow hfresh, ⟨⟨_, hv2, by rw [cellsK_snoc, Xrow, List.length_append]; exact hr2, by simp⟩, fun k hk => ?_, hI.below.trans hb2, k2, k3⟩⟩
      rcases List.mem_append.1 hk with hk | hk
      · exact hI.good k hk
      · obtain rfl := List.mem_singleton.1 hk
        exact he
    · have he' : ((Xe f x : Nat) : Int) = 12 := by rw [he]; rfl
      rw [he']
      have hc2 := hI.res2.cell
      have hf2 := hI.res2.frozen
      have hc3 := hI.res3.cell
      have hf3 := hI.res3.frozen
      gi_wp2
      have k2 := (hI.res2.set (.slice none 0 0)).kept (grown_set _ (w.heap.size + 1) 0 (.int .i64 12)) (by simp)
      have k3 := (hI.res3.kept (grown_set _ w.heap.size 0 (.slice none 0 0)) (by simp)).set (.int .i64 12)
      exact ⟨((KeepsOthers.setCell _ _ _).trans (KeepsOthers.setCell _ _ _)).from _, ⟨rfl, ⟨x, by simp, he⟩, (hI.below.setCell (p := ⟨w.heap.size, 0, none⟩) (Nat.le_refl _) _).setCell (p := ⟨w.heap.size + 1, 0, none⟩) (Nat.le_succ _) _, k2, k3⟩⟩
  case done =>
    rintro D2 ys W hD rfl hI hK
    have hok : ok = true := by
      cases ok
      · exfalso
        have h1 := hI.good N (List.mem_range.2 (Nat.lt_succ_self N))
        have h2 := hw.fin
        rw [if_neg (by simp)] at h2
        rw [(bk_no h2.2).2] at h1
        cases h1
      · rfl
    subst hok
    obtain ⟨v, hv, hrow, hnil⟩ := hI.row
    rw [show bkN N true = N from rfl, List.length_range, cellsK_all hw] at hrow
    obtain ⟨va, vn, vc, hvv⟩ := row_form hrow
    subst hvv
    have hc := hv.cell
    have hc2 := hI.res2.cell
    have hf2 := hI.res2.frozen
    have hc3 := hI.res3.cell
    have hf3 := hI.res3.frozen
    gi_wp2
    have hK2 := ((KeepsOthers.setCell W ⟨w.heap.size, 0, none⟩ (.slice va vn vc)).trans (KeepsOthers.setCell _ ⟨w.heap.size + 1, 0, none⟩ (.int .i64 0))).same D2 _ hK rfl
    have b2 := (hI.res2.set (.slice va vn vc)).kept (grown_set _ (w.heap.size + 1) 0 (.int .i64 0)) (by simp)
    have b3 := (hI.res3.kept (grown_set _ w.heap.size 0 (.slice va vn vc)) (by simp)).set (.int .i64 0)
    have r2 := (hrow.kept (grown_set W w.heap.size 0 (.slice va vn vc)) (.inr (hI.res2.not_row (by decide) hrow).symm))
    have r3 := r2.kept (grown_set _ (w.heap.size + 1) 0 (.int .i64 0)) (.inr ((hI.res3.kept (grown_set _ w.heap.size 0 (.slice va vn vc)) (by simp)).not_row (by decide) r2).symm)
    have hBB := (hI.below.setCell (p := ⟨w.heap.size, 0, none⟩) (Nat.le_refl _) (.slice va vn vc)).setCell (p := ⟨w.heap.size + 1, 0, none⟩) (Nat.le_succ _) (.int .i64 0)
    obtain ⟨W2, hW2⟩ : ∃ W2, (W.setCell ⟨w.heap.size, 0, none⟩ (.slice va vn vc)).setCell ⟨w.heap.size + 1, 0, none⟩ (.int .i64 0) = W2 := ⟨_, rfl⟩
    rw [hW2] at hK2 b2 b3 r3 hBB ⊢
    have hne2 : D2 ≠ w.heap.size := by omega
    have hne3 : D2 ≠ w.heap.size + 1 := by omega
    have d2 := (b2.kept (grownBy_putObj' W2 D2 (.deferred none)) (by simp; omega)).cell
    have d3 := (b3.kept (grownBy_putObj' W2 D2 (.deferred none)) (by simp; omega)).cell
    refine ⟨by simp, .inl ⟨_, _, rfl, run_takeDeferred hK2, ?_⟩⟩
    refine ⟨.tuple #[.slice va vn vc, .int .i64 0], by simp [results, Tryz.results46, go_sem, d2, d3], .slice va vn vc, rfl, ?_, below_grown (hBB.trans (belowK_b (w := w) (Nat.le_refl _) W2 D2 _ _ (by omega) hK2 rfl rfl))⟩
    unfold OwnB wkL
    rw [if_pos rfl, blks_len]
    exact ownsRow_putObj r3 _ hK2 rfl
  case stop =>
    rintro D2 c pre W hD hSp hX hK
    obtain rfl := hX.jump
    gi_wp2
    have hok : ok = false := by
      cases ok
      · rfl
      · exfalso
        obtain ⟨m, hm, rfl⟩ := hSp
        obtain ⟨k, hk, hb⟩ := hX.bad
        rw [List.mem_range] at hk
        have hm' : m ≤ N := hm
        rw [(bk_yes (hw.lt k (by omega)).2).2] at hb
        cases hb
    subst hok
    have hne2 : D2 ≠ w.heap.size := by omega
    have hne3 : D2 ≠ w.heap.size + 1 := by omega
    have d2 := (hX.res2.kept (grownBy_putObj' W D2 (.deferred none)) (by simp; omega)).cell
    have d3 := (hX.res3.kept (grownBy_putObj' W D2 (.deferred none)) (by simp; omega)).cell
    refine ⟨by simp, .inl ⟨_, _, rfl, run_takeDeferred hK, ?_⟩⟩
    refine ⟨.tuple #[.slice none 0 0, .int .i64 12], by simp [results, Tryz.results46, go_sem, d2, d3], .slice none 0 0, rfl, World.ownsRow_nil _ _ _ _, below_grown (hX.below.trans (belowK_b (w := w) (Nat.le_refl _) W D2 _ _ (by omega) hK rfl rfl))⟩
theorem pwalk_yes (h : Thinks w T M R B D ws l) {N : Nat} {ok : Bool} (hc : chkN ws l = 0) (hw : Walks (txSee ws l) N ok) (hN : N ≤ 1000000) :
    Calls Tryz.prog 46 #[.pointer (some ⟨T, 0, none⟩)] w fun e w' => ∃ v, e = .returned (.tuple #[v, .int .i64 (wkE ok : Nat)]) ∧ OwnB w' w.heap.size 128 v (wkL (txSee ws l) N ok) ∧ w.grownBy w' none :=
  callsIn_wide.1 (pwalk_in h hc hw hN)
set_option maxHeartbeats 1000000 in
theorem pwalk_no (h : Thinks w T M R B D ws l) (hc : chkN ws l = 12) :
    Calls Tryz.prog 46 #[.pointer (some ⟨T, 0, none⟩)] w fun e w' => e = .returned (.tuple #[.slice none 0 0, .int .i64 12]) ∧ w.grownBy w' none := by
  have hg0 : w.grownBy ((w.alloc (.cells #[.slice none 0 0] 63)).alloc (.cells #[.int .i64 0] 27)) none := grown_trans (World.grownBy_alloc _ _ _) (World.grownBy_alloc _ _ _)
  have hck := hcheck_any (h.later hg0)
  rw [hc] at hck
  simp only [show ((12 : Nat) : Int) = 12 from rfl] at hck
  have hb2 : ((w.alloc (.cells #[.slice none 0 0] 63)).alloc (.cells #[.int .i64 0] 27)).heap[w.heap.size]? = some (.cells #[.slice none 0 0] 63 (0, 0)) :=
    (Below.heap_alloc _ _ _ (by simp)).trans (heap_alloc_new' w _)
  have hb3 : ((w.alloc (.cells #[.slice none 0 0] 63)).alloc (.cells #[.int .i64 0] 27)).heap[w.heap.size + 1]? = some (.cells #[.int .i64 0] 27 (0, 0)) := by
    have := heap_alloc_new' (w.alloc (.cells #[.slice none 0 0] 63)) (.cells #[.int .i64 0] 27)
    rwa [World.size_alloc] at this
  go_enter Tryz.func46, Tryz.ntmps46
  go_wp2_with (go_at_call 79; (with_reducible refine hck.mono ?_); rintro e w1 ⟨rfl, hg1⟩; have k2 : Boxed w1 w.heap.size 63 (.slice none 0 0) := (hg1.block _ (lt_of_block hb2) (by simp)).trans hb2; have k3 : Boxed w1 (w.heap.size + 1) 27 (.int .i64 0) := (hg1.block _ (lt_of_block hb3) (by simp)).trans hb3; have c2 := k2.cell; have c3 := k3.cell; have f2 := k2.frozen; have f3 := k3.frozen)
  have d2 := ((k2.set (.slice none 0 0)).kept (grown_set _ (w.heap.size + 1) 0 (.int .i64 12)) (by simp)).cell
  have d3 := ((k3.kept (grown_set _ w.heap.size 0 (.slice none 0 0)) (by simp)).set (.int .i64 12)).cell
  refine bodyPost_ret (v := .tuple #[.slice none 0 0, .int .i64 12]) (by simp [results, Tryz.results46, go_sem, d2, d3]) rfl ?_
  have G := grown_trans hg0 hg1
  exact ⟨rfl, grown_new (grown_trans (grown_new (grown_trans (grown_any G _) (grown_set _ _ _ _)) (Nat.le_refl _) |> fun g => grown_any g (some (w.heap.size + 1))) (grown_set _ _ _ _)) (by omega)⟩
end
end Go.Proofs.YtmcnpenihoaajaaGreat
namespace Go.Proofs.YtmcnpenihoaajaaGreat
open Go.RowKit
def gO (l : List Blk) (k : Nat) : Nat := (l.getD k default).off
def gS (l : List Blk) (k : Nat) : Nat := (l.getD k default).s
def gU (l : List Blk) (k : Nat) : Bool := (l.getD k default).u
def gW (l : List Blk) (k : Nat) : Int := (l.getD k default).o
def gN (l : List Blk) (k : Nat) : Nat := (l.getD k default).n
structure BlksAt (w : World) (la : Option Addr) (l : List Blk) : Prop where
  cells : 0 < l.length → ∃ b off, la = some ⟨b, off, none⟩ ∧ b < w.heap.size ∧ ∀ k, k < l.length → w.cell? ⟨b, off + k * 5, none⟩ = some (.int .u64 (gO l k : Nat)) ∧ w.cell? ⟨b, off + k * 5 + 1, none⟩ = some (.int .u64 (gS l k : Nat)) ∧ w.cell? ⟨b, off + k * 5 + 2, none⟩ = some (.bool (gU l k)) ∧ w.cell? ⟨b, off + k * 5 + 3, none⟩ = some (.int .i64 (gW l k)) ∧ w.cell? ⟨b, off + k * 5 + 4, none⟩ = some (.int .u64 (gN l k : Nat))
theorem BlksAt.later {w w' : World} {la : Option Addr} {l : List Blk} (h : BlksAt w la l) (hg : w.grownBy w' none) : BlksAt w' la l where
  cells := fun hn => by
    obtain ⟨b, off, h1, h2, h3⟩ := h.cells hn
    refine ⟨b, off, h1, Nat.lt_of_lt_of_le h2 hg.size, fun i hi => ?_⟩
    have hb := hg.block b h2 (by simp)
    obtain ⟨c0, c1, c2, c3, c4⟩ := h3 i hi
    exact ⟨(World.cell?_of_block (w := w) (a := ⟨b, off + i * 5, none⟩) hb).trans c0, (World.cell?_of_block (w := w) (a := ⟨b, off + i * 5 + 1, none⟩) hb).trans c1, (World.cell?_of_block (w := w) (a := ⟨b, off + i * 5 + 2, none⟩) hb).trans c2, (World.cell?_of_block (w := w) (a := ⟨b, off + i * 5 + 3, none⟩) hb).trans c3, (World.cell?_of_block (w := w) (a := ⟨b, off + i * 5 + 4, none⟩) hb).trans c4⟩
theorem OwnB.later {w w' : World} {base : Nat} {t : TypeId} {v : Value} {l : List Blk} (h : OwnB w base t v l) (hg : w.grownBy w' none) : OwnB w' base t v l := own_kept h hg
theorem OwnB.mono {w : World} {base base' : Nat} {t : TypeId} {v : Value} {l : List Blk} (h : OwnB w base t v l) (hb : base' ≤ base) : OwnB w base' t v l := World.ownsRow.mono h hb
theorem OwnB.at_ {w : World} {base : Nat} {t : TypeId} {v : Value} {l : List Blk} (h : OwnB w base t v l) : ∃ la c, v = .slice la l.length c ∧ BlksAt w la l := by
  rcases h.2 with ⟨h1, h2⟩ | ⟨g, cap, cur, hv, hbg, hg, rest⟩
  · exact ⟨none, 0, by rw [h1, h2], ⟨fun h => by omega⟩⟩
  · refine ⟨_, cap, hv, ⟨fun _ => ⟨g, 0, rfl, lt_of_block hg, fun k hk => ?_⟩⟩⟩
    have h' := h
    unfold OwnB at h'
    rw [hv] at h'
    have hl := cellsB_len l
    have c0 := (World.ownsRow.cellAt h' (k * 5) (by omega)).trans (cellsB_at l k 0 hk (by decide))
    have c1 := (World.ownsRow.cellAt h' (k * 5 + 1) (by omega)).trans (cellsB_at l k 1 hk (by decide))
    have c2 := (World.ownsRow.cellAt h' (k * 5 + 2) (by omega)).trans (cellsB_at l k 2 hk (by decide))
    have c3 := (World.ownsRow.cellAt h' (k * 5 + 3) (by omega)).trans (cellsB_at l k 3 hk (by decide))
    have c4 := (World.ownsRow.cellAt h' (k * 5 + 4) (by omega)).trans (cellsB_at l k 4 hk (by decide))
    rw [Nat.zero_add]
    exact ⟨c0, c1, c2, c3, c4⟩
section
variable {p : Blk → Bool} {l : List Blk}
end
def pF (payload : Nat) (b : Blk) : Bool := b.u && decide ((b.off + 32) % 18446744073709551616 = payload)
end Go.Proofs.YtmcnpenihoaajaaGreat
namespace Go.Proofs.YtmcnpenihoaajaaGreat
open Go.RowKit
section
variable {w : World} {T M : Nat} {R : Option Nat} {B D : Nat} {ws : List Nat} {l : List (Nat × Nat)}
end
theorem ret_boolq {a b : Bool} (h : a = b) : Ending.returned (.bool a) = .returned (.bool b) := by rw [h]
def mergedL (l : List Blk) : Bool := (List.range l.length).all fun i => i == 0 || gU l (i - 1) || gU l i
theorem merged_yes {l : List Blk} {n : Nat} (hn : l.length = n) (h : ∀ j, j < n → 1 ≤ j → ¬ (gU l (j - 1) = false ∧ gU l j = false)) : true = mergedL l := by
  unfold mergedL
  refine (List.all_eq_true.2 fun i hi => ?_).symm
  have h1 := h i (by rw [← hn]; exact List.mem_range.1 hi)
  by_cases h0 : i = 0
  · simp [h0]
  · have h2 := h1 (by omega)
    cases e1 : gU l (i - 1) <;> cases e2 : gU l i <;> simp_all
theorem merged_no {l : List Blk} {k : Nat} (hk : k < l.length) (h1 : 1 ≤ k) (h2 : gU l (k - 1) = false) (h3 : gU l k = false) : false = mergedL l := by
  unfold mergedL
  refine (List.all_eq_false.2 ⟨k, List.mem_range.2 hk, ?_⟩).symm
  simp [h2, h3]
  omega
set_option maxHeartbeats 1000000 in
theorem merged_any {w : World} {la : Option Addr} {c : Nat} {l : List Blk} (h : BlksAt w la l) (hl : l.length ≤ 1000000) :
    Calls Tryz.prog 47 #[.slice la l.length c] w fun e w' => e = .returned (.bool (mergedL l)) ∧ w.grownBy w' none := by
  obtain ⟨n, hn⟩ : ∃ n, l.length = n := ⟨_, rfl⟩
  have HN := Lib.hid hn
  rw [hn] at hl ⊢
  clear hn
  go_enter Tryz.func47, Tryz.ntmps47
  go_wp2
  go_loop [3] (fun i => ∃ k : Nat, (k ≤ n ∨ k = 1) ∧ 1 ≤ k ∧ i = .int .i64 k ∧ Hid (∀ j, j < k → 1 ≤ j → ¬ (gU l (j - 1) = false ∧ gU l j = false))) (fun i => n - (intOf i).toNat)
  case atStart => exact ⟨1, .inr rfl, Nat.le_refl _, rfl, Lib.hid (fun j hj h1 => by omega)⟩
  case round =>
    obtain ⟨k, hk, h1k, rfl, HJ⟩ := hrel
    rcases Nat.lt_or_ge k n with h1 | h1
    · obtain ⟨b, off, rfl, hb, hcs⟩ := h.cells (by rw [HN.out]; omega)
      obtain ⟨j, rfl⟩ : ∃ j, k = j + 1 := ⟨k - 1, by omega⟩
      obtain ⟨_, _, a2, _, _⟩ := hcs j (by rw [HN.out]; omega)
      obtain ⟨_, _, c2, _, _⟩ := hcs (j + 1) (by rw [HN.out]; exact h1)
      have e1 : IntKind.i64.wrap ((j + 1 : Nat) - 1 : Int) = (j : Nat) := by rw [IntKind.wrap_i64]; omega
      obtain ⟨u, hu⟩ : ∃ u, gU l j = u := ⟨_, rfl⟩
      obtain ⟨u', hu'⟩ : ∃ u', gU l (j + 1) = u' := ⟨_, rfl⟩
      rw [hu] at a2
      rw [hu'] at c2
      have HU := Lib.hid hu
      have HU' := Lib.hid hu'
      clear hcs hu hu' h
      cases u with
      | true =>
        go_wp2
        go_round
        case rel =>
          refine ⟨j + 2, .inl (by omega), by omega, by go_num, Lib.hid fun i hi h1 => ?_⟩
          rcases Nat.lt_or_ge i (j + 1) with h' | h'
          · exact HJ.out i h' h1
          · obtain rfl : i = j + 1 := by omega
            rw [Nat.add_sub_cancel, HU.out]
            simp
        case measure => simp [intOf]; omega
      | false =>
        cases u' with
        | true =>
          go_wp2
          go_round
          case rel =>
            refine ⟨j + 2, .inl (by omega), by omega, by go_num, Lib.hid fun i hi h1 => ?_⟩
            rcases Nat.lt_or_ge i (j + 1) with h' | h'
            · exact HJ.out i h' h1
            · obtain rfl : i = j + 1 := by omega
              rw [HU'.out]
              simp
          case measure => simp [intOf]; omega
        | false =>
          go_wp2
          go_ret
          exact ⟨ret_boolq (merged_no (by rw [HN.out]; exact h1) (by omega) (by rw [Nat.add_sub_cancel]; exact HU.out) HU'.out), grown_refl _ _⟩
    · clear h
      go_wp2
      go_ret
      exact ⟨ret_boolq (merged_yes HN.out (fun j hj => HJ.out j (by omega))), grown_refl _ _⟩
end Go.Proofs.YtmcnpenihoaajaaGreat
namespace Go.Proofs.YtmcnpenihoaajaaGreat
open Go.RowKit
section
variable {w wr : World} {T M B D bx b6 : Nat} {wv : Value} {ws : List Nat} {l l' : List (Nat × Nat)}
end
theorem Txs.from {w W0 w1 : World} {T M : Nat} {R : Option Nat} {B D : Nat} {ws : List Nat} {l : List (Nat × Nat)} (hg : w.grownBy W0 none) (h : Txs W0 w1 T M R B D ws l) : Txs w w1 T M R B D ws l where
  tx := h.tx
  since := grown_trans hg h.since
  newT := Nat.le_trans hg.size h.newT
  newM := Nat.le_trans hg.size h.newM
  newR := fun g e => Nat.le_trans hg.size (h.newR g e)
  newB := Nat.le_trans hg.size h.newB
  newD := Nat.le_trans hg.size h.newD
end Go.Proofs.YtmcnpenihoaajaaGreat
