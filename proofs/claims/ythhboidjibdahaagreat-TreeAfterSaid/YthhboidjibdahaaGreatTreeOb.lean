/-
  Package tree: the contracts of All and After.
  Conditions: the Tx stands in memory; the words say the tree of some blocks.
-/
import Derived.Test.YthhboidjibdahaaGreatTreeNb
namespace Go.Proofs.YthhboidjibdahaaGreat
open Go.RowKit Go.Shelf
set_option linter.unusedVariables false
set_option linter.unusedSimpArgs false
set_option maxRecDepth 100000
attribute [local go_sem] Oper.semAt_some

section
variable {w : World} {T M : Nat} {R : Option Nat} {B D : Nat} {ws : List Nat} {l l' : List (Nat × Nat)} {z : Nat → Nat} {F S : List Nat}
theorem Rests.of {lb B : Nat} {I : List Nat → World → Prop} (h : ∀ s A C row, I s A → A.grownBy C row → (∀ r, row = some r → B ≤ r ∧ r ≠ lb ∧ ¬ RowAt lb A r) → I s C) (hc : ∀ s A, I s A → ∃ c t fr, A.heap[lb]? = some (.cells c t fr) ∧ t ≠ 33 ∧ ∀ b, RowAt lb A b → ∃ c' t' fr', A.heap[b]? = some (.cells c' t' fr')) : Rests lb B I := fun s A C row hs hg hr => h s A C row hs hg fun r e => by
  obtain ⟨h1, h2⟩ := hr r e
  obtain ⟨c, t, fr, h3, h4, h5⟩ := hc s A hs
  rcases h2 with ⟨o, h6, h7⟩ | ⟨⟨c', fr', h6⟩, h8⟩
  · refine ⟨h1, fun e2 => ?_, fun hra => ?_⟩
    · subst e2; rw [h3] at h6; cases h6; cases h7
    · obtain ⟨c', t', fr', h8⟩ := h5 r hra
      rw [h8] at h6; cases h6; cases h7
  · refine ⟨h1, fun e2 => ?_, h8⟩
    subst e2
    rw [h3] at h6
    injection h6 with h6
    injection h6 with _ h6
    exact h4 h6
/-- the x-th one of them -/
def atL (l : List Nat) (x : Nat) : Nat := l.getD x 0
theorem atL_all (l : List Nat) : (List.range l.length).map (atL l) = l := by
  apply List.ext_getElem
  · simp
  · intro i h1 h2
    simp only [List.getElem_map, List.getElem_range, atL]
    rw [List.getD_eq_getElem?_getD, List.getElem?_eq_getElem h2]; rfl
/-- What All's loop holds: the row that its variable leads to has what has been told. -/
structure AlI (w : World) (lb : Nat) (Tl pre : List Nat) (W : World) : Prop where
  row : ∃ v, Boxed W lb 26 v ∧ OwnW W w.heap.size v (pre.map (atL Tl))
  below : Below w.heap.size w W
theorem AlI.rests (w : World) (n lb : Nat) (Tl : List Nat) (hn : w.heap.size ≤ n) : Rests lb n (AlI w lb Tl) := Rests.of (fun s A C row hs hg hr => by
  obtain ⟨v, h1, h2⟩ := hs.row
  refine ⟨⟨v, (hg.block lb (lt_of_block h1) (fun e => (hr lb e.symm).2.1 rfl)).trans h1, ?_⟩, hs.below.grown hg hs.below.size (fun k e => Nat.le_trans hn (hr k e).1)⟩
  refine World.ownsRow.kept h2 hg ?_
  by_cases e : v.ownBlock = none
  · exact .inl e
  · refine .inr fun e2 => ?_
    obtain ⟨g, hg2⟩ := Option.ne_none_iff_exists'.1 e
    exact (hr g (by rw [← e2, hg2])).2.2 ⟨v, h1.cell, hg2⟩) fun s A hs => by
  obtain ⟨v, h1, h2⟩ := hs.row
  refine ⟨_, _, _, h1, by decide, fun b hb => ?_⟩
  obtain ⟨u, h3, h4⟩ := hb
  rw [show A.cell? ⟨lb, 0, none⟩ = some v from h1.cell] at h3
  injection h3 with h3
  subst h3
  obtain ⟨_, _, c, fr, h5⟩ := own_u64 h2 h4
  exact ⟨c, _, fr, h5⟩
theorem al_stays {W W1 : World} {tmp : Obj} {v u : Value} {base lb n : Nat} {xs : List Nat} (hv : Boxed W lb 26 v) (hown : OwnW W base v xs) (hg : (W.alloc tmp).grownBy W1 v.ownBlock) : KeepsFrom n W (W1.setCell ⟨lb, 0, none⟩ u) := by
  have g1 := World.grownBy_alloc W tmp none
  refine ⟨Nat.le_trans g1.size (Nat.le_trans hg.size (grown_set W1 lb 0 u).size), fun k o _ hk ho => ?_⟩
  have h1 := (g1.block k (lt_of_block hk) (by simp)).trans hk
  have h2 : W1.heap[k]? = some o := (hg.block k (lt_of_block h1) fun e => by
    obtain ⟨_, _, c, fr, h3⟩ := own_u64 hown e.symm
    rw [h3] at hk; cases hk; cases ho).trans h1
  refine ((grown_set W1 lb 0 u).block k (lt_of_block h2) fun e => ?_).trans h2
  injection e with e
  subst e
  rw [show W.heap[k]? = _ from hv] at hk
  cases hk; cases ho
theorem al_box {W W1 : World} {tmp : Obj} {v : Value} {base lb : Nat} {xs : List Nat} (hv : Boxed W lb 26 v) (hown : OwnW W base v xs) (hg : (W.alloc tmp).grownBy W1 v.ownBlock) : Boxed W1 lb 26 v := by
  have g1 := World.grownBy_alloc W tmp none
  have h1 : (W.alloc tmp).heap[lb]? = some (.cells #[v] 26 (0, 0)) := (g1.block lb (lt_of_block hv) (by simp)).trans hv
  refine (hg.block lb (lt_of_block h1) fun e => ?_).trans h1
  obtain ⟨_, _, c, fr, h3⟩ := own_u64 hown e.symm
  rw [show W.heap[lb]? = _ from hv] at h3
  injection h3 with h3
  injection h3 with _ h3 _
  exact absurd h3 (by decide)
theorem al_keep {W W1 : World} {tmp : Obj} {v v' : Value} {base lb n0 : Nat} {xs ys : List Nat} (hv : Boxed W lb 26 v) (hown : OwnW W base v xs) (hg : (W.alloc tmp).grownBy W1 v.ownBlock) (hl : v'.ownBlock = v.ownBlock ∨ v'.ownBlock = some (W.heap.size + 1)) (hown' : OwnW W1 base v' ys) (hb : n0 ≤ base) (hb2 : n0 ≤ W.heap.size) (hlb : n0 ≤ lb) : TkKeep n0 lb W (W1.setCell ⟨lb, 0, none⟩ v') ∧ Boxed (W1.setCell ⟨lb, 0, none⟩ v') lb 26 v' ∧ OwnW (W1.setCell ⟨lb, 0, none⟩ v') base v' ys := by
  have g1 := World.grownBy_alloc W tmp none
  have g2 := grown_set W1 lb 0 v'
  have hne : v.ownBlock ≠ some lb := fun e => by
    obtain ⟨_, _, c, fr, h3⟩ := own_u64 hown e
    rw [show W.heap[lb]? = _ from hv] at h3
    injection h3 with h3
    injection h3 with _ h3 _
    exact absurd h3 (by decide)
  have hlbW := lt_of_block hv
  have h1 : (W.alloc tmp).heap[lb]? = some (.cells #[v] 26 (0, 0)) := (g1.block lb hlbW (by simp)).trans hv
  have h2 : W1.heap[lb]? = some (.cells #[v] 26 (0, 0)) := (hg.block lb (lt_of_block h1) fun e => hne e.symm).trans h1
  have h3 : Boxed (W1.setCell ⟨lb, 0, none⟩ v') lb 26 v' := by
    unfold Boxed
    rw [heap_setCell_same h2 v']; rfl
  refine ⟨⟨?_, fun b hb2' hn hr => ?_, fun b hb => ?_⟩, h3, ?_⟩
  · have q1 : Below n0 W W1 := ((Below.refl n0 W).alloc hb2 tmp).grown hg (by rw [World.size_alloc]; omega) (fun k e => Nat.le_trans hb (own_u64 hown e).1)
    exact q1.setCell (p := ⟨lb, 0, none⟩) hlb v'
  · obtain ⟨c, t, fr, hb2'⟩ := hb2'
    have h4 := (g1.block b (lt_of_block hb2') (by simp)).trans hb2'
    have h5 := (hg.block b (lt_of_block h4) fun e => hr ⟨v, hv.cell, e.symm⟩).trans h4
    exact ((g2.block b (lt_of_block h5) fun e => hn (by injection e)).trans h5).trans hb2'.symm
  · obtain ⟨u, h4, h5⟩ := hb
    rw [show (W1.setCell ⟨lb, 0, none⟩ v').cell? ⟨lb, 0, none⟩ = some v' from h3.cell] at h4
    injection h4 with h4
    subst h4
    rcases hl with e | e
    · exact .inl ⟨v, hv.cell, by rw [← e]; exact h5⟩
    · rw [h5] at e
      injection e with e
      have h6 := (own_u64 hown' h5).2.1
      exact .inr ⟨by omega, Nat.lt_of_lt_of_le h6 g2.size⟩
  · refine World.ownsRow.kept hown' g2 (.inr fun e => ?_)
    obtain ⟨_, _, c, fr, h6⟩ := own_u64 hown' e
    rw [h2] at h6
    injection h6 with h6
    injection h6 with _ h6 _
    exact absurd h6 (by decide)
set_option maxHeartbeats 4000000 in
theorem tall_in (h : Thinks w T M R B D ws l) (hB : Bed ws l z F) (hT : Tame z F S) (ht : TreeOf (txSee ws l) rkN (txSee ws l 32) S) (hlen : S.length ≤ 1000000) :
    CallsIn Fence.wide 6 Tryz.prog 12 #[.pointer (some ⟨T, 0, none⟩)] w fun e w' => ∃ v, e = .returned v ∧ OwnW w' w.heap.size v S ∧ w.grownBy w' none := by
  have hgL := World.grownBy_alloc w (.cells #[.slice none 0 0] 26) none
  have hbL := heap_alloc_new' w (.cells #[.slice none 0 0] 26)
  have hga := fun V => World.grownBy_alloc V (.cells #[.pointer (some ⟨T, 0, none⟩)] 61) none
  have hbh : ∀ V : World, CallsIn Fence.wide 5 Tryz.prog 31 #[.agg #[.pointer (some ⟨T, 0, none⟩)], .agg #[.int .u64 0, .int .u64 0]] V fun e w' => e = .returned (.func (.func 53) #[] #[.pointer (some ⟨V.heap.size, 0, none⟩), .pointer (some ⟨V.heap.size + 1, 0, none⟩)]) ∧ (V.alloc (.cells #[.pointer (some ⟨T, 0, none⟩)] 61)).alloc (.cells #[.int .u64 0, .int .u64 0] 66) = w' := fun V => (callsIn_wide (n := 5)).2 (behind_any T 0 0 V)
  have hTl : gtL z 0 0 S = S := List.filter_eq_self.2 fun x hx => decide_eq_true (by have := hT.free.on x (hT.sub x hx); unfold ltK; omega)
  refine callsIn_of_wp_marks Tryz.func12 rfl trivial ?_ rfl
  simp only [Tryz.ntmps12, List.size_toArray, List.length_cons, List.length_nil, Nat.reduceAdd, Nat.reduceSub, Array.replicate_succ, Array.replicate_zero, List.push_toArray, List.append_toArray, List.nil_append, List.cons_append]
  gi_wp2_with (first | (refine ⟨trivial, ?_⟩; gi_at_call 31; (with_reducible refine (hbh _).mono ?_); rintro e w2 ⟨rfl, rfl⟩))
  have hgA : w.grownBy (((w.alloc (.cells #[.slice none 0 0] 26)).alloc (.cells #[.pointer (some ⟨T, 0, none⟩)] 61)).alloc (.cells #[.int .u64 0, .int .u64 0] 66)) none := grown_trans hgL (grown_trans (World.grownBy_alloc _ _ _) (World.grownBy_alloc _ _ _))
  have hbl : (((w.alloc (.cells #[.slice none 0 0] 26)).alloc (.cells #[.pointer (some ⟨T, 0, none⟩)] 61)).alloc (.cells #[.int .u64 0, .int .u64 0] 66)).heap[w.heap.size]? = some (.cells #[.slice none 0 0] 26 (0, 0)) := (Below.heap_alloc _ _ _ (by simp; omega)).trans ((Below.heap_alloc _ _ _ (by simp)).trans hbL)
  have hbw : (((w.alloc (.cells #[.slice none 0 0] 26)).alloc (.cells #[.pointer (some ⟨T, 0, none⟩)] 61)).alloc (.cells #[.int .u64 0, .int .u64 0] 66)).heap[w.heap.size + 1]? = some (.cells #[.pointer (some ⟨T, 0, none⟩)] 61 (0, 0)) := by
    have := heap_alloc_new' (w.alloc (.cells #[.slice none 0 0] 26)) (.cells #[.pointer (some ⟨T, 0, none⟩)] 61)
    rw [World.size_alloc] at this
    exact (Below.heap_alloc _ _ _ (by simp)).trans this
  have hbk : (((w.alloc (.cells #[.slice none 0 0] 26)).alloc (.cells #[.pointer (some ⟨T, 0, none⟩)] 61)).alloc (.cells #[.int .u64 0, .int .u64 0] 66)).heap[w.heap.size + 2]? = some (.cells #[.int .u64 0, .int .u64 0] 66 (0, 0)) := by
    have := heap_alloc_new' ((w.alloc (.cells #[.slice none 0 0] 26)).alloc (.cells #[.pointer (some ⟨T, 0, none⟩)] 61)) (.cells #[.int .u64 0, .int .u64 0] 66)
    rw [World.size_alloc, World.size_alloc] at this
    exact this
  have hszA : (((w.alloc (.cells #[.slice none 0 0] 26)).alloc (.cells #[.pointer (some ⟨T, 0, none⟩)] 61)).alloc (.cells #[.int .u64 0, .int .u64 0] 66)).heap.size = w.heap.size + 3 := by simp
  obtain ⟨W0, hW0⟩ : ∃ W0, ((w.alloc (.cells #[.slice none 0 0] 26)).alloc (.cells #[.pointer (some ⟨T, 0, none⟩)] 61)).alloc (.cells #[.int .u64 0, .int .u64 0] 66) = W0 := ⟨_, rfl⟩
  rw [hW0] at hgA hbl hbw hbk hszA ⊢
  have hno : ∀ b, ¬ RowAt w.heap.size W0 b := fun b ⟨u, q1, q2⟩ => by
    rw [cell_of_one hbl] at q1
    injection q1 with q1
    subst q1
    simp [Value.ownBlock] at q2
  have hseq := behind1_tells h hB hT ht hlen 0 0 (w.heap.size + 1) (w.heap.size + 2) w.heap.size (grown_below hgA) hbw hbk (by omega) (by omega) (by omega) (fun b hb => absurd hb (hno b))
  rw [hTl] at hseq
  replace hseq : Tells 5 53 #[.pointer (some ⟨w.heap.size + 1, 0, none⟩), .pointer (some ⟨w.heap.size + 2, 0, none⟩)] (fun x => #[.int .u64 (atL S x : Nat)]) S.length w.heap.size w.heap.size W0 := hseq
  clear hbL hgL hga hbh hW0 h hB hT ht hTl hbw hbk hno
  refine range_tells (by decide) (gf := 53) (cb := #[.pointer (some ⟨w.heap.size + 1, 0, none⟩), .pointer (some ⟨w.heap.size + 2, 0, none⟩)]) rfl (enters_of Tryz.func53 (by kernel_rfl) rfl) hseq (Below.refl _ _) hgA.size (by omega) (fun _ => rfl) (AlI w w.heap.size S) (fun _ _ _ => False) (AlI.rests w _ _ _ hgA.size) (fun c s A C row hf _ _ => hf.elim) ⟨⟨_, hbl, World.ownsRow_nil _ _ _ _⟩, grown_below hgA⟩
    (fun x => { tmps := #[.pointer (some ⟨T, 0, none⟩), undef, .slice none 0 0, .pointer (some ⟨w.heap.size, 0, none⟩), .int .u64 (atL S x : Nat), .pointer (some ⟨T, 0, none⟩), .agg #[.pointer (some ⟨T, 0, none⟩)], .agg #[.int .u64 0, .int .u64 0], .func (.func 53) #[] #[.pointer (some ⟨w.heap.size + 1, 0, none⟩), .pointer (some ⟨w.heap.size + 2, 0, none⟩)], .int .u64 (atL S x : Nat), undef, undef, undef, undef, undef], defers := [] }) ?assign ?body ?done ?stop
  case assign =>
    intro yl x W K hK
    gi_wp2
    exact hK
  case body =>
    rintro yl pre x W hI hlt
    obtain ⟨v, hv, hrow⟩ := hI.row
    have hc := hv.cell
    have hsz := hI.below.size
    gi_wp2_with (gi_at_builtin; go_must (refine wpListIn_append_num rfl _ _ rfl w.heap.size v _ rfl hrow (atL S x) rfl (by simp; omega) hsz ?_); intro v' w5 hown5 hg5 hloc5; obtain ⟨va, vn, vc, hvv⟩ := wv_form hown5; subst hvv; have hb5 := al_box hv hrow hg5; have hc5 := hb5.cell; have hf5 := hb5.frozen)
    obtain ⟨q1, q2, q3⟩ := al_keep (n0 := w.heap.size) hv hrow hg5 hloc5 hown5 (Nat.le_refl _) hsz (Nat.le_refl _)
    exact ⟨al_stays hv hrow hg5, q1, ⟨⟨_, q2, by rw [List.map_append]; exact q3⟩, hI.below.trans q1.below⟩⟩
  case done =>
    rintro D2 W hD hI hK
    obtain ⟨v, hv, hrow⟩ := hI.row
    rw [atL_all] at hrow
    obtain ⟨va, vn, vc, hvv⟩ := wv_form hrow
    subst hvv
    have hc := hv.cell
    gi_wp2
    have hsz := hgA.size
    refine ⟨by simp, .inl ⟨_, _, rfl, run_takeDeferred hK, ?_⟩⟩
    refine ⟨.slice va vn vc, by simp [results, Tryz.results12, go_sem], .slice va vn vc, rfl, ?_, below_grown (hI.below.trans (belowK_b (w := w) (Nat.le_refl _) W D2 _ _ (by omega) hK rfl rfl))⟩
    exact ownsRow_putObj hrow _ hK rfl
  case stop =>
    rintro D2 c m W _ _ hf
    exact hf.elim
theorem tall_any (h : Thinks w T M R B D ws l) (hB : Bed ws l z F) (hT : Tame z F S) (ht : TreeOf (txSee ws l) rkN (txSee ws l 32) S) (hlen : S.length ≤ 1000000) :
    Calls Tryz.prog 12 #[.pointer (some ⟨T, 0, none⟩)] w fun e w' => ∃ v, e = .returned v ∧ OwnW w' w.heap.size v S ∧ w.grownBy w' none := callsIn_wide.1 (tall_in h hB hT ht hlen)
/-- What After's loop holds. -/
structure AfI (w : World) (pre : List Nat) (W : World) : Prop where
  none_ : pre = []
  res1 : Boxed W w.heap.size 33 (.int .u64 0)
  res2 : Boxed W (w.heap.size + 1) 4 (.bool false)
  below : Below w.heap.size w W
/-- .. and has left. -/
structure AfX (w : World) (Tl : List Nat) (c : Code) (pre : List Nat) (W : World) : Prop where
  jump : c = .ret
  one : pre.length = 1
  res1 : ∀ x, pre = [x] → Boxed W w.heap.size 33 (.int .u64 (atL Tl x : Nat))
  res2 : Boxed W (w.heap.size + 1) 4 (.bool true)
  below : Below w.heap.size w W
theorem boxed_past {A C : World} {row : Option Nat} {b n : Nat} {t : TypeId} {v : Value} (h : Boxed A b t v) (hg : A.grownBy C row) (hr : ∀ r, row = some r → n ≤ r) (hb : b < n) : Boxed C b t v :=
  (hg.block b (lt_of_block h) fun e => by have := hr b e.symm; omega).trans h
theorem AfI.rests (w : World) (n lb : Nat) (hn : w.heap.size + 2 ≤ n) : Rests lb n (AfI w) := fun s A C row hs hg hr =>
  ⟨hs.none_, boxed_past hs.res1 hg (fun r e => (hr r e).1) (by omega), boxed_past hs.res2 hg (fun r e => (hr r e).1) (by omega), hs.below.grown hg hs.below.size (fun k e => by have := (hr k e).1; omega)⟩
theorem AfX.rests (w : World) (n lb : Nat) (Tl : List Nat) (hn : w.heap.size + 2 ≤ n) (c : Code) : Rests lb n (AfX w Tl c) := fun s A C row hs hg hr =>
  ⟨hs.jump, hs.one, fun x e => boxed_past (hs.res1 x e) hg (fun r e => (hr r e).1) (by omega), boxed_past hs.res2 hg (fun r e => (hr r e).1) (by omega), hs.below.grown hg hs.below.size (fun k e => by have := (hr k e).1; omega)⟩
set_option maxHeartbeats 4000000 in
theorem tafter_in (h : Thinks w T M R B D ws l) (hB : Bed ws l z F) (hT : Tame z F S) (ht : TreeOf (txSee ws l) rkN (txSee ws l 32) S) (hlen : S.length ≤ 1000000) (s o : Nat) :
    CallsIn Fence.wide 6 Tryz.prog 15 #[.pointer (some ⟨T, 0, none⟩), .int .u64 s, .int .u64 o] w fun e w' => e = .returned (.tuple #[.int .u64 (atL (gtL z s o S) 0 : Nat), .bool (decide (0 < (gtL z s o S).length))]) ∧ w.grownBy w' none := by
  have hbh : ∀ V : World, CallsIn Fence.wide 5 Tryz.prog 31 #[.agg #[.pointer (some ⟨T, 0, none⟩)], .agg #[.int .u64 s, .int .u64 o]] V _ := fun V => (callsIn_wide (n := 5)).2 (behind_any T s o V)
  have hg0 : w.grownBy ((w.alloc (.cells #[.int .u64 0] 33)).alloc (.cells #[.bool false] 4)) none := grown_trans (World.grownBy_alloc _ _ _) (World.grownBy_alloc _ _ _)
  have h1 : ((w.alloc (.cells #[.int .u64 0] 33)).alloc (.cells #[.bool false] 4)).heap[w.heap.size]? = some (.cells #[.int .u64 0] 33 (0, 0)) := (Below.heap_alloc _ _ _ (by simp)).trans (heap_alloc_new' w _)
  have h2 : ((w.alloc (.cells #[.int .u64 0] 33)).alloc (.cells #[.bool false] 4)).heap[w.heap.size + 1]? = some (.cells #[.bool false] 4 (0, 0)) := by
    have := heap_alloc_new' (w.alloc (.cells #[.int .u64 0] 33)) (.cells #[.bool false] 4)
    rwa [World.size_alloc] at this
  have hsz0 : ((w.alloc (.cells #[.int .u64 0] 33)).alloc (.cells #[.bool false] 4)).heap.size = w.heap.size + 2 := by simp
  obtain ⟨Tl, eTl⟩ : ∃ Tl, gtL z s o S = Tl := ⟨_, rfl⟩
  rw [eTl]
  refine callsIn_of_wp_marks Tryz.func15 rfl trivial ?_ rfl
  simp only [Tryz.ntmps15, List.size_toArray, List.length_cons, List.length_nil, Nat.reduceAdd, Nat.reduceSub, Array.replicate_succ, Array.replicate_zero, List.push_toArray, List.append_toArray, List.nil_append, List.cons_append]
  gi_wp2_with (first | (refine ⟨trivial, ?_⟩; gi_at_call 31; (with_reducible refine (hbh _).mono ?_); rintro e w2 ⟨rfl, rfl⟩))
  obtain ⟨W1, hW1⟩ : ∃ W1, (w.alloc (.cells #[.int .u64 0] 33)).alloc (.cells #[.bool false] 4) = W1 := ⟨_, rfl⟩
  rw [hW1] at hg0 h1 h2 hsz0 ⊢
  have hgA : W1.grownBy ((W1.alloc (.cells #[.pointer (some ⟨T, 0, none⟩)] 61)).alloc (.cells #[.int .u64 s, .int .u64 o] 66)) none := grown_trans (World.grownBy_alloc _ _ _) (World.grownBy_alloc _ _ _)
  have hbw : ((W1.alloc (.cells #[.pointer (some ⟨T, 0, none⟩)] 61)).alloc (.cells #[.int .u64 s, .int .u64 o] 66)).heap[w.heap.size + 2]? = some (.cells #[.pointer (some ⟨T, 0, none⟩)] 61 (0, 0)) := by
    have := heap_alloc_new' W1 (.cells #[.pointer (some ⟨T, 0, none⟩)] 61)
    rw [hsz0] at this
    exact (Below.heap_alloc _ _ _ (by simp; omega)).trans this
  have hbk : ((W1.alloc (.cells #[.pointer (some ⟨T, 0, none⟩)] 61)).alloc (.cells #[.int .u64 s, .int .u64 o] 66)).heap[w.heap.size + 3]? = some (.cells #[.int .u64 s, .int .u64 o] 66 (0, 0)) := by
    have := heap_alloc_new' (W1.alloc (.cells #[.pointer (some ⟨T, 0, none⟩)] 61)) (.cells #[.int .u64 s, .int .u64 o] 66)
    rw [World.size_alloc, hsz0] at this
    exact this
  have hszA : ((W1.alloc (.cells #[.pointer (some ⟨T, 0, none⟩)] 61)).alloc (.cells #[.int .u64 s, .int .u64 o] 66)).heap.size = w.heap.size + 4 := by simp [hsz0]
  have k1 := two_held1 h1 hgA
  have k2 := two_held1 h2 hgA
  obtain ⟨W0, hW0⟩ : ∃ W0, (W1.alloc (.cells #[.pointer (some ⟨T, 0, none⟩)] 61)).alloc (.cells #[.int .u64 s, .int .u64 o] 66) = W0 := ⟨_, rfl⟩
  rw [hW0] at hgA hbw hbk hszA k1 k2 ⊢
  have hG := grown_trans hg0 hgA
  have hno : ∀ b, ¬ RowAt (w.heap.size + 1) W0 b := fun b ⟨u, q1, q2⟩ => by
    rw [cell_of_one k2] at q1
    injection q1 with q1
    subst q1
    simp [Value.ownBlock] at q2
  have hseq := behind1_tells h hB hT ht hlen s o (w.heap.size + 2) (w.heap.size + 3) (w.heap.size + 1) (grown_below hG) hbw hbk (by omega) (by omega) (by omega) (fun b hb => absurd hb (hno b))
  replace hseq : Tells 5 53 #[.pointer (some ⟨w.heap.size + 2, 0, none⟩), .pointer (some ⟨w.heap.size + 3, 0, none⟩)] (fun x => #[.int .u64 (atL (gtL z s o S) x : Nat)]) (gtL z s o S).length (w.heap.size + 1) w.heap.size W0 := hseq
  rw [eTl] at hseq
  clear h1 h2 hg0 hsz0 hW1 hW0 hbh h hB hT ht hbw hbk hno eTl hgA
  refine range_tells (by decide) (gf := 53) (cb := #[.pointer (some ⟨w.heap.size + 2, 0, none⟩), .pointer (some ⟨w.heap.size + 3, 0, none⟩)]) rfl (enters_of Tryz.func53 (by kernel_rfl) rfl) hseq (Below.refl _ _) hG.size (by omega) (fun _ => rfl) (AfI w) (AfX w Tl) (AfI.rests w _ _ (by omega)) (AfX.rests w _ _ _ (by omega)) ⟨rfl, k1, k2, grown_below hG⟩
    (fun x => { tmps := #[.pointer (some ⟨T, 0, none⟩), .int .u64 s, .int .u64 o, undef, undef, undef, .pointer (some ⟨w.heap.size, 0, none⟩), .pointer (some ⟨w.heap.size + 1, 0, none⟩), .int .u64 (atL Tl x : Nat), .pointer (some ⟨T, 0, none⟩), .agg #[.pointer (some ⟨T, 0, none⟩)], .int .u64 s, .int .u64 o, .agg #[.int .u64 s, .int .u64 o], .func (.func 53) #[] #[.pointer (some ⟨w.heap.size + 2, 0, none⟩), .pointer (some ⟨w.heap.size + 3, 0, none⟩)], .int .u64 (atL Tl x : Nat), undef], defers := [] }) ?assign ?body ?done ?stop
  case assign =>
    intro yl x W K hK
    gi_wp2
    exact hK
  case body =>
    rintro yl pre x W hI hlt
    have c1 := hI.res1.cell
    have f1 := hI.res1.frozen
    have c2 := hI.res2.cell
    have f2 := hI.res2.frozen
    have hp := hI.none_
    subst hp
    gi_wp2
    have q1 := (hI.res1.set (.int .u64 (atL Tl x : Nat))).kept (grown_set _ (w.heap.size + 1) 0 (.bool true)) (by simp)
    have q2 := (hI.res2.kept (grown_set _ w.heap.size 0 (.int .u64 (atL Tl x : Nat))) (by simp)).set (.bool true)
    exact ⟨((KeepsOthers.setCell _ _ _).trans (KeepsOthers.setCell _ _ _)).from _, ⟨rfl, rfl, fun y e => by (have e2 : x = y := by simpa using e); subst e2; exact q1, q2, (hI.below.setCell (p := ⟨w.heap.size, 0, none⟩) (Nat.le_refl _) _).setCell (p := ⟨w.heap.size + 1, 0, none⟩) (Nat.le_succ _) _⟩⟩
  case done =>
    rintro D2 W hD hI hK
    have hN : Tl = [] := by
      have := congrArg List.length hI.none_
      simp at this
      exact List.length_eq_zero_iff.1 (by simpa using this)
    subst hN
    have c1 := hI.res1.cell
    have f1 := hI.res1.frozen
    have c2 := hI.res2.cell
    have f2 := hI.res2.frozen
    gi_wp2
    have hK2 := ((KeepsOthers.setCell W ⟨w.heap.size, 0, none⟩ (.int .u64 0)).trans (KeepsOthers.setCell _ ⟨w.heap.size + 1, 0, none⟩ (.bool false))).same D2 _ hK rfl
    have b1 := (hI.res1.set (.int .u64 0)).kept (grown_set _ (w.heap.size + 1) 0 (.bool false)) (by simp)
    have b2 := (hI.res2.kept (grown_set _ w.heap.size 0 (.int .u64 0)) (by simp)).set (.bool false)
    have hBB := (hI.below.setCell (p := ⟨w.heap.size, 0, none⟩) (Nat.le_refl _) (.int .u64 0)).setCell (p := ⟨w.heap.size + 1, 0, none⟩) (Nat.le_succ _) (.bool false)
    obtain ⟨W2, hW2⟩ : ∃ W2, (W.setCell ⟨w.heap.size, 0, none⟩ (.int .u64 0)).setCell ⟨w.heap.size + 1, 0, none⟩ (.bool false) = W2 := ⟨_, rfl⟩
    rw [hW2] at hK2 b1 b2 hBB ⊢
    have d1 := (b1.kept (grownBy_putObj' W2 D2 (.deferred none)) (by simp; omega)).cell
    have d2 := (b2.kept (grownBy_putObj' W2 D2 (.deferred none)) (by simp; omega)).cell
    refine ⟨by simp, .inl ⟨_, _, rfl, run_takeDeferred hK2, ?_⟩⟩
    refine ⟨.tuple #[.int .u64 0, .bool false], by simp [results, Tryz.results15, go_sem, d1, d2], rfl, below_grown (hBB.trans (belowK_b (w := w) (Nat.le_refl _) W2 D2 _ _ (by omega) hK2 rfl rfl))⟩
  case stop =>
    rintro D2 c m W hD hm hX hK
    obtain rfl := hX.jump
    have hm1 : m = 1 := by simpa using hX.one
    subst hm1
    have hr1 := hX.res1 0 rfl
    have hr2 := hX.res2
    have hN : decide (0 < Tl.length) = true := decide_eq_true hm
    gi_wp2
    have d1 := (hr1.kept (grownBy_putObj' W D2 (.deferred none)) (by simp; omega)).cell
    have d2 := (hr2.kept (grownBy_putObj' W D2 (.deferred none)) (by simp; omega)).cell
    refine ⟨by simp, .inl ⟨_, _, rfl, run_takeDeferred hK, ?_⟩⟩
    refine ⟨.tuple #[.int .u64 (atL Tl 0 : Nat), .bool true], by simp [results, Tryz.results15, go_sem, d1, d2], by rw [hN], below_grown (hX.below.trans (belowK_b (w := w) (Nat.le_refl _) W D2 _ _ (by omega) hK rfl rfl))⟩
theorem tafter_any (h : Thinks w T M R B D ws l) (hB : Bed ws l z F) (hT : Tame z F S) (ht : TreeOf (txSee ws l) rkN (txSee ws l 32) S) (hlen : S.length ≤ 1000000) (s o : Nat) :
    Calls Tryz.prog 15 #[.pointer (some ⟨T, 0, none⟩), .int .u64 s, .int .u64 o] w fun e w' => e = .returned (.tuple #[.int .u64 (atL (gtL z s o S) 0 : Nat), .bool (decide (0 < (gtL z s o S).length))]) ∧ w.grownBy w' none := callsIn_wide.1 (tafter_in h hB hT ht hlen s o)
end
end Go.Proofs.YthhboidjibdahaaGreat
