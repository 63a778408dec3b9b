/-
  Texts of one layer, one behind the other: memory, contracts of the functions, and what follows of them.
  Conditions: as each theorem says.
-/
import Derived.Test.YtkkkgikmeiocaaaDirJ
import Derived.Test.YtkkkgikmeiocaaaLDif
import Derived.Test.YtkkkgikmeiocaaaLDig
import Derived.Deep.RegionLaw
set_option linter.unusedVariables false
set_option linter.unusedSimpArgs false
namespace Go.Proofs.Ytkkkgikmeiocaaa
open Go.RowKit Go.Shelf
set_option maxRecDepth 100000
attribute [local go_sem] Oper.semAt_some
theorem info_ent : (Try.prog.info? 56).map (fun i => (i.zero, i.size, i.bytes)) = some (some (.agg #[.string ByteArray.empty, .int .u64 0]), 2, 24) := by kernel_rfl
def entP (f : Nat → Nat) (pre : List Nat) : List (ByteArray × Nat) := pre.filterMap fun k => entAt f ((0 % 16 + k) % 16)
theorem entP_snoc (f : Nat → Nat) (pre : List Nat) (x : Nat) : entP f (pre ++ [x]) = entP f pre ++ (entAt f ((0 % 16 + x) % 16)).toList := by
  unfold entP
  rw [List.filterMap_append]
  have h : List.filterMap (fun k => entAt f ((0 % 16 + k) % 16)) [x] = (entAt f ((0 % 16 + x) % 16)).toList := by
    rw [List.filterMap_cons]
    cases entAt f ((0 % 16 + x) % 16) with
    | none => rfl
    | some y => rfl
  rw [h]
theorem fm_congr13 {α β : Type} {f g : α → Option β} : ∀ {l : List α}, (∀ x ∈ l, f x = g x) → l.filterMap f = l.filterMap g
  | [], _ => rfl
  | x :: l, h => by
    rw [List.filterMap_cons, List.filterMap_cons, h x (by simp), fm_congr13 fun y hy => h y (List.mem_cons_of_mem _ hy)]
theorem entP_len (f : Nat → Nat) (pre : List Nat) : (entP f pre).length ≤ pre.length := List.length_filterMap_le _ _
theorem entP_all (f : Nat → Nat) : entP f (List.range 16) = entK f 16 := by
  unfold entP entK
  refine fm_congr13 fun k hk => ?_
  have := List.mem_range.1 hk
  rw [show (0 % 16 + k) % 16 = k by omega]
structure AlI13 (w : World) (f : Nat → Nat) (bw : Nat) (pre : List Nat) (W : World) : Prop where
  row : ∃ v, Boxed W w.heap.size 39 v ∧ OwnN W w.heap.size 56 v (entP f pre)
  below : Below w.heap.size w W
  big : bw ≤ W.heap.size
theorem own_ent {base : Nat} {A : World} {t : TypeId} {v : Value} {xs : List (ByteArray × Nat)} {g : Nat} (h : OwnN A base t v xs) (hg : v.ownBlock = some g) : base ≤ g ∧ g < A.heap.size ∧ ∃ c fr, A.heap[g]? = some (.cells c t fr) := by
  obtain ⟨_, cur, hb⟩ := row_block h hg
  exact ⟨(World.ownsRow.lt h g hg).1, (World.ownsRow.lt h g hg).2, cur, _, hb⟩
theorem AlI13.own (w : World) (n : Nat) (f : Nat → Nat) (bw : Nat) (hn : w.heap.size ≤ n) : OwnFrom n (AlI13 w f bw) := fun pre X Y row hs hg hr => by
  have hc : ∀ {b : Nat} {c : Array Value} {t : TypeId} {fr : Nat × Nat}, X.heap[b]? = some (.cells c t fr) → row ≠ some b := fun h e => by
    obtain ⟨_, o, ho, hc⟩ := hr _ e
    rw [h] at ho; cases ho; cases hc
  obtain ⟨v, h1, h2⟩ := hs.row
  refine ⟨⟨v, h1.kept hg (fun e => hc h1 e.symm), ?_⟩, hs.below.grown hg hs.below.size (fun k e => Nat.le_trans hn (hr k e).1), Nat.le_trans hs.big hg.size⟩
  refine World.ownsRow.kept h2 hg ?_
  by_cases e : v.ownBlock = none
  · exact .inl e
  · refine .inr fun e2 => ?_
    obtain ⟨g, hg2⟩ := Option.ne_none_iff_exists'.1 e
    obtain ⟨_, _, c, fr, h3⟩ := own_ent h2 hg2
    exact hc h3 (by rw [← e2, hg2])
theorem AlI13.later {w W W' : World} {f : Nat → Nat} {bw : Nat} {pre : List Nat} (hs : AlI13 w f bw pre W) (hg : W.grownBy W' none) : AlI13 w f bw pre W' := by
  obtain ⟨v, h1, h2⟩ := hs.row
  exact ⟨⟨v, h1.kept hg (by simp), h2.later hg⟩, hs.below.grown hg hs.below.size (fun k e => by cases e), Nat.le_trans hs.big hg.size⟩
set_option maxHeartbeats 4000000 in
theorem call13_in {w : World} {p : Option Addr} {f : Nat → Nat} (hld : TLd w p f) (hf : ∀ x, f x < 18446744073709551616) :
    CallsIn Fence.wide 6 Try.prog 15 #[.pointer p] w fun e w' => ∃ v, e = .returned v ∧ OwnN w' w.heap.size 56 v (entK f 16) ∧ w.grownBy w' none := by
  obtain ⟨i0, hi, hz0, hz1, hz2⟩ := info_parts info_ent
  have hro : ∀ V : World, CallsIn Fence.wide 5 Try.prog 31 #[.pointer p, .int .u64 0] V _ := fun V => (callsIn_wide (n := 5)).2 (cround_any p 0 V)
  have hst := fun (W0 : World) (tb : Nat) => cround_stops (w0 := W0) (tb := tb) (f := f) (w := w) (p := p) (n := 0) hld (by decide)
  replace hst : ∀ (W0 : World) (tb : Nat), Below w.heap.size w W0 → Boxed W0 tb 25 (.pointer p) → Boxed W0 (tb + 1) 31 (.int .u64 0) → SeqStopsK Fence.wide 5 Try.prog 46 #[.pointer (some ⟨tb, 0, none⟩), .pointer (some ⟨tb + 1, 0, none⟩)] (fun x : Nat => #[slV f ((0 % 16 + x) % 16)]) (RdK w.heap.size tb (.pointer p) (.int .u64 0)) (fun ys => ys = List.range 16) (fun pre => ∃ k, k < 16 ∧ pre = List.range (k + 1)) 16 W0 := hst
  have HST := Lib.hid hst
  have HF := Lib.hid hf
  clear hst hld hf
  have r1 := Boxed.new w 39 (.slice none 0 0)
  have hgr : w.grownBy (w.alloc (.cells #[.slice none 0 0] 39)) none := World.grownBy_alloc _ _ _
  have hsA : (w.alloc (.cells #[.slice none 0 0] 39)).heap.size = w.heap.size + 1 := by simp
  refine callsIn_of_wp_marks Try.func15 rfl trivial ?_ rfl
  simp only [Try.ntmps15, List.size_toArray, List.length_cons, List.length_nil, Nat.reduceAdd, Nat.reduceSub, Array.replicate_succ, Array.replicate_zero, List.push_toArray, List.append_toArray, List.nil_append, List.cons_append]
  gi_wp2_with (first | (refine ⟨trivial, ?_⟩; gi_at_call 31; (with_reducible refine (hro _).mono ?_); rintro e w3 ⟨rfl, rfl⟩))
  obtain ⟨A0, hA0⟩ : ∃ W, w.alloc (.cells #[.slice none 0 0] 39) = W := ⟨_, rfl⟩
  rw [hA0] at hgr r1 hsA ⊢
  obtain ⟨A1, hA1⟩ : ∃ W, A0.alloc (.cells #[.pointer p] 25) = W := ⟨_, rfl⟩
  have b3 : Boxed A1 (w.heap.size + 1) 25 (.pointer p) := by rw [← hA1, ← hsA]; exact Boxed.new _ _ _
  have hz1' : A1.heap.size = w.heap.size + 1 + 1 := by rw [← hA1, World.size_alloc, hsA]
  have g3 : A0.grownBy A1 none := by rw [← hA1]; exact World.grownBy_alloc _ _ _
  rw [hA1]
  obtain ⟨W0, hW0⟩ : ∃ W, A1.alloc (.cells #[.int .u64 0] 31) = W := ⟨_, rfl⟩
  have b4 : Boxed W0 (w.heap.size + 1 + 1) 31 (.int .u64 0) := by rw [← hW0, ← hz1']; exact Boxed.new _ _ _
  have hz2' : W0.heap.size = w.heap.size + 3 := by rw [← hW0, World.size_alloc, hz1']
  have g4 : A1.grownBy W0 none := by rw [← hW0]; exact World.grownBy_alloc _ _ _
  rw [hW0]
  have g34 := grown_trans g3 g4
  have gA := grown_trans hgr g34
  have k1 := r1.kept g34 (by simp)
  have k4 := b3.kept g4 (by simp)
  have hseq := HST.out W0 (w.heap.size + 1) (grown_below gA) k4 b4
  clear hW0 hA0 hA1 HST hro b3 b4 k4 r1 g3 g4 g34 hgr hz1' hsA
  refine wpIn_rangeFunc_ownH rfl (by decide) (gf := 46) (lb := #[.pointer (some ⟨w.heap.size + 1, 0, none⟩), .pointer (some ⟨w.heap.size + 1 + 1, 0, none⟩)]) rfl trivial (enters_of Try.func46 (by kernel_rfl) rfl) hseq (fun h k => RdK.trans h k) (fun W l o o' hl h hc hw => RdK.put (w0 := W0) gA.size (by omega) W l o o' hl h hc hw) (Below.refl _ _) (fun _ => rfl)
    (AlI13 w f (w.heap.size + 3)) (fun _ _ _ => False) (AlI13.own w _ f _ gA.size) (fun _ _ _ _ _ hs _ _ => hs)
    ⟨⟨_, k1, World.ownsRow_nil _ _ _ _⟩, grown_below gA, by omega⟩
    (fun x a' W => ∃ B, w.heap.size + 3 ≤ B ∧ W.heap[B]? = some (.cells (slC f ((0 % 16 + x) % 16)) 65 (0, 0)) ∧ a' = { tmps := #[.pointer p, undef, .slice none 0 0, .pointer (some ⟨w.heap.size, 0, none⟩), .pointer (some ⟨B, 0, none⟩), undef, undef, .pointer p, .func (.func 46) #[] #[.pointer (some ⟨w.heap.size + 1, 0, none⟩), .pointer (some ⟨w.heap.size + 1 + 1, 0, none⟩)], slV f ((0 % 16 + x) % 16), undef, undef, undef, undef, undef, undef, undef, undef, undef, undef, undef, undef, undef, undef, undef, undef, undef, undef, undef], defers := [] })
    (fun x a' _ X Y row hs hg hr => by
      obtain ⟨B, q1, q2, q3⟩ := hs
      exact ⟨B, q1, cells_past13 hg hr q2, q3⟩)
    ?assign ?body ?done ?stop
  case assign =>
    rintro yl pre x W K hI hK
    obtain ⟨j, ej⟩ : ∃ j, (0 % 16 + x) % 16 = j := ⟨_, rfl⟩
    rw [ej] at hK ⊢
    unfold slC at hK
    unfold slV at hK ⊢
    gi_wp2
    exact hK _ _ ((KeepsOthers.alloc _ _).from _) (RdK.grown (row := none) hI.below.size (World.grownBy_alloc _ _ _) (fun r e => by cases e)) (hI.later (World.grownBy_alloc _ _ _)) ⟨W.heap.size, hI.big, heap_alloc_new' _ _, rfl⟩
  case body =>
    rintro yl pre x a' W hl ⟨r, hr⟩ hI ⟨B, hB, hc, rfl⟩ hlt2
    have hcs := fun (q : Nat) V => (callsIn_wide (n := 3)).2 (cstands_any q V)
    have hsn := entP_snoc f pre x
    have hlen := entP_len f pre
    unfold entAt at hsn
    obtain ⟨v, hv, hrow⟩ := hI.row
    obtain ⟨c0, c1, c2, c3⟩ := four_cells hc
    obtain ⟨j, ej⟩ : ∃ j, (0 % 16 + x) % 16 = j := ⟨_, rfl⟩
    unfold slV
    unfold slC at hc
    rw [ej] at hc c0 c1 c2 c3 hsn ⊢
    obtain ⟨d, ed⟩ : ∃ d, dAt j = d := ⟨_, rfl⟩
    rw [ed] at hc c0 c1 c2 c3 hsn ⊢
    have hnm := fun V => (callsIn_wide (n := 3)).2 ((bothname13 (HF.out d) (HF.out (d + 8))).1 V)
    obtain ⟨x0, ex0⟩ : ∃ q, f d = q := ⟨_, rfl⟩
    obtain ⟨x8, ex8⟩ : ∃ q, f (d + 8) = q := ⟨_, rfl⟩
    obtain ⟨x16, ex16⟩ : ∃ q, f (d + 16) = q := ⟨_, rfl⟩
    simp only [ex0, ex8, ex16] at hc c0 c1 c2 c3 hsn hnm ⊢
    obtain ⟨o, eo⟩ : ∃ o, nameD x0 x8 = o := ⟨_, rfl⟩
    rw [eo] at hnm hsn
    obtain ⟨sn, esn⟩ : ∃ s, o.getD ByteArray.empty = s := ⟨_, rfl⟩
    obtain ⟨ok, eok⟩ : ∃ b, o.isSome = b := ⟨_, rfl⟩
    rw [esn, eok] at hnm
    have hcs1 := hcs x16
    have cv := hv.cell
    have zv := hv.frozen
    have HC := Lib.hid hc
    have HV := Lib.hid hv
    by_cases hx1 : 1 < x16
    · rw [decide_eq_true hx1] at hcs1
      cases ok with
      | true =>
        have hen : entP f (pre ++ [x]) = entP f pre ++ [(sn, x16)] := by
          rw [hsn, if_pos hx1]
          cases o with
          | none => cases eok
          | some s => simp only [Option.getD_some] at esn; subst esn; rfl
        have HEN := Lib.hid hen
        have HI := Lib.hid hI
        have HROW := Lib.hid hrow
        have hpl : (entP f pre).length ≤ 16 := by omega
        clear hI hsn hlen hen hx1 hcs hc hv eo esn eok ex0 ex8 ex16 ed ej
        gi_wp2_with (first
          | (refine ⟨trivial, ?_⟩; gi_at_call 32; (with_reducible refine (CallsIn.inRound yl (hcs1 _)).mono ?_); rintro e w2 ⟨rfl, rfl⟩)
          | (refine ⟨trivial, ?_⟩; gi_at_call 33; (with_reducible refine (CallsIn.inRound yl (hnm _)).mono ?_); rintro e w2 ⟨rfl, hg2⟩; have hc2 := (hg2.block _ (lt_of_block HC.out) (by simp)).trans HC.out; have hv2 := HV.out.kept hg2 (by simp); obtain ⟨c0, c1, c2, c3⟩ := four_cells hc2; have cv := hv2.cell; have zv := hv2.frozen)
          | (gi_at_builtin; go_must (refine wpListIn_append_own _ rfl _ _ 39 rfl w.heap.size 56 i0 (.agg #[.string ByteArray.empty, .int .u64 0]) 2 24 Try.underlying39 hi hz0 hz1 hz2 rfl (by decide) _ _ _ rfl ((HROW.out.later hg2).alloc _) ⟨w2.heap.size, 0, none⟩ 1 1 [.string sn, .int .u64 (x16 : Nat)] rfl rfl (cells_two_new _ _ _ _) (by simp [Value.oneCell']) (by unfold maxLen; omega) (by omega) (by have := HI.out.below.size; have := hg2.size; simp; omega) ?_); intro v' w4 hown' hgrow _; obtain ⟨g', cap', rfl⟩ := ownsRow_succ hown'; obtain ⟨hv1, hv3, hr2, hk2, hb2⟩ := hv2.appended (by decide) (HROW.out.later hg2) (Nat.le_trans HI.out.below.size hg2.size) (Nat.le_refl _) hown' hgrow; have hc1 := hv1.cell; have hf1 := hv1.frozen))
        have hgw := World.grownBy_alloc w2 (.cells #[.string sn, .int .u64 (x16 : Nat)] 56) none
        have hne : ∀ {b : Nat} {t : TypeId} {u : Value}, Boxed w2 b t u → t ≠ 56 → some b ≠ v.ownBlock := fun hb ht e => by
          obtain ⟨_, _, c, fr, h3⟩ := own_ent (HROW.out.later hg2) e.symm
          rw [show w2.heap[_]? = _ from hb] at h3
          injection h3 with h3
          injection h3 with _ h3 _
          exact ht h3
        have hks : ∀ {b : Nat} {t : TypeId} {u : Value}, Boxed w2 b t u → t ≠ 56 → b ≠ w.heap.size → Boxed (w4.setCell ⟨w.heap.size, 0, none⟩ (.slice (some ⟨g', 0, none⟩) ((entP f pre).length + 1) cap')) b t u := fun hb ht hn =>
          ((hb.kept hgw (by simp)).kept hgrow (hne hb ht)).kept (grown_set _ _ _ _) (fun e => hn (by injection e))
        have hB2 := HI.out.below.grown hg2 HI.out.below.size (fun k e => by cases e)
        refine ⟨(KeepsFrom.of_grownBy hg2 (fun j e => by cases e)).trans (hk2.from _), (RdK.grown HI.out.below.size hg2 (fun r e => by cases e)).trans ⟨hb2, fun b => hks b (by decide) (by omega), fun b => hks b (by decide) (by omega)⟩, ⟨⟨_, hv3, ?_⟩, hB2.trans hb2, Nat.le_trans HI.out.big (Nat.le_trans hg2.size hb2.size)⟩⟩
        rw [HEN.out]
        unfold OwnN
        rw [cellsN_app, List.length_append]
        exact hr2
      | false =>
        have hen : entP f (pre ++ [x]) = entP f pre := by
          rw [hsn, if_pos hx1]
          cases o with
          | none => simp
          | some s => cases eok
        have HEN := Lib.hid hen
        have HI := Lib.hid hI
        clear hI hsn hlen hen hx1 hcs hc hv eo esn eok ex0 ex8 ex16 ed ej hrow
        gi_wp2_with (first
          | (refine ⟨trivial, ?_⟩; gi_at_call 32; (with_reducible refine (CallsIn.inRound yl (hcs1 _)).mono ?_); rintro e w2 ⟨rfl, rfl⟩)
          | (refine ⟨trivial, ?_⟩; gi_at_call 33; (with_reducible refine (CallsIn.inRound yl (hnm _)).mono ?_); rintro e w2 ⟨rfl, hg2⟩; have hc2 := (hg2.block _ (lt_of_block HC.out) (by simp)).trans HC.out; have hv2 := HV.out.kept hg2 (by simp); obtain ⟨c0, c1, c2, c3⟩ := four_cells hc2; have cv := hv2.cell; have zv := hv2.frozen))
        have H2 := HI.out.later hg2
        obtain ⟨v2, q1, q2⟩ := H2.row
        exact ⟨(KeepsFrom.of_grownBy hg2 (fun j e => by cases e)), RdK.grown HI.out.below.size hg2 (fun r e => by cases e), ⟨⟨v2, q1, by rw [HEN.out]; exact q2⟩, H2.below, H2.big⟩⟩
    · rw [decide_eq_false hx1] at hcs1
      have hen : entP f (pre ++ [x]) = entP f pre := by
        rw [hsn, if_neg hx1]
        simp
      have HEN := Lib.hid hen
      have HI := Lib.hid hI
      clear hI hsn hlen hen hx1 hcs hc hv eo esn eok ex0 ex8 ex16 ed ej hrow
      gi_wp2_with (first | (refine ⟨trivial, ?_⟩; gi_at_call 32; (with_reducible refine (CallsIn.inRound yl (hcs1 _)).mono ?_); rintro e w2 ⟨rfl, rfl⟩))
      obtain ⟨v2, q1, q2⟩ := HI.out.row
      exact ⟨(KeepsOthers.refl _).from _, RdK.refl _ _ _ _ _, ⟨⟨v2, q1, by rw [HEN.out]; exact q2⟩, HI.out.below, HI.out.big⟩⟩
  case done =>
    rintro D2 ys W hD rfl hI hK
    obtain ⟨v, hv, hrow⟩ := hI.row
    have hB := hI.below
    rw [entP_all] at hrow
    obtain ⟨va, vc, hvv⟩ := hrow.form
    obtain ⟨vn, evn⟩ : ∃ n, (entK f 16).length = n := ⟨_, rfl⟩
    rw [evn] at hvv
    clear evn
    subst hvv
    have hc := hv.cell
    have HROW := Lib.hid hrow
    clear hI hrow
    gi_wp2
    refine ⟨by simp, .inl ⟨_, _, rfl, run_takeDeferred hK, ?_⟩⟩
    exact ⟨.slice va vn vc, by simp [results, Try.results15, go_sem], .slice va vn vc, rfl, ownsRow_putObj HROW.out _ hK rfl, below_grown (hB.trans (belowK_b (w := w) (Nat.le_refl _) W D2 _ _ (by have := gA.size; omega) hK rfl rfl))⟩
  case stop =>
    rintro D2 c pre W _ _ h _
    exact h.elim
theorem call13_any {w : World} {p : Option Addr} {f : Nat → Nat} (hld : TLd w p f) (hf : ∀ x, f x < 18446744073709551616) :
    Calls Try.prog 15 #[.pointer p] w fun e w' => ∃ v, e = .returned v ∧ OwnN w' w.heap.size 56 v (entK f 16) ∧ w.grownBy w' none := callsIn_wide.1 (call13_in hld hf)
end Go.Proofs.Ytkkkgikmeiocaaa
namespace Go.Proofs.Ytkkkgikmeiocaaa
open Go.RowKit
set_option maxRecDepth 100000
def putN (f : Nat → Nat) (s : ByteArray) (p : Nat) : Nat := if roomN f s ≠ 0 then roomN f s else if p < 2 then 1 else 0
def putW (f : Nat → Nat) (s : ByteArray) (p : Nat) : Nat → Nat := if putN f s p = 0 then match plN f s with | some i => putD f i (loD s) (hiD s) p | none => f else f
theorem room_place {f : Nat → Nat} {s : ByteArray} (h : roomN f s = 0) : nmOk s ∧ stN f s = none ∧ ∃ i, plN f s = some i ∧ i < 16 := by
  unfold roomN at h
  split at h
  · cases h
  · rename_i h1
    split at h
    · cases h
    · rename_i h2
      split at h
      · cases h
      · rename_i h3
        refine ⟨Decidable.of_not_not h1, Decidable.of_not_not h2, ?_⟩
        cases e : plN f s with
        | none => exact absurd e h3
        | some i =>
          obtain ⟨m, _, _, rfl, _, _⟩ := plF_some e
          exact ⟨_, rfl, Nat.mod_lt _ (by decide)⟩
section
variable {w w' : World} {f : Nat → Nat} {wv pv : Value} {s : ByteArray} {base K p : Nat} {ws : List Nat}
set_option maxHeartbeats 8000000 in
theorem rput13 (h : RD w base wv pv ws f K) (hbase : base ≤ w.heap.size) (hK : K ≤ 100000) (hs : s.size ≤ maxLen) (hp : p < 18446744073709551616) :
    Calls Try.prog 23 #[.agg #[wv, pv], .string s, .int .u64 (p : Nat)] w fun e w' => ∃ pv', e = .returned (.tuple #[.agg #[wv, pv'], .int .i64 (putN f s p : Nat)]) ∧ RD w' base wv pv' ws (putW f s p) (K + 3) ∧ w.grownBy w' none := by
  obtain ⟨⟨wa, wn, wc, rfl⟩, pa, pn, pc, rfl⟩ := h.form
  have gA := World.grownBy_alloc w (.cells #[.slice wa wn wc, .slice pa pn pc] 28) none
  have gB := World.grownBy_alloc (w.alloc (.cells #[.slice wa wn wc, .slice pa pn pc] 28)) (.cells #[.slice none 0 0, .slice none 0 0] 28) none
  have hg0 := grown_trans gA gB
  have hbx : ∀ V, ((w.alloc (.cells #[.slice wa wn wc, .slice pa pn pc] 28)).alloc (.cells #[.slice none 0 0, .slice none 0 0] 28)).grownBy V none → V.heap[w.heap.size]? = some (.cells #[.slice wa wn wc, .slice pa pn pc] 28 (0, 0)) ∧ V.heap[w.heap.size + 1]? = some (.cells #[.slice none 0 0, .slice none 0 0] 28 (0, 0)) := fun V hg => txs_first hg
  have hrm := rroom13 ((h.lds (by omega)).later hg0) hs
  have HB := Lib.hid hbx
  have HR := Lib.hid h
  have HG0 := Lib.hid hg0
  have hsz0 : w.heap.size + 2 ≤ ((w.alloc (.cells #[.slice wa wn wc, .slice pa pn pc] 28)).alloc (.cells #[.slice none 0 0, .slice none 0 0] 28)).heap.size := by simp
  obtain ⟨q1, q2, _, _⟩ := tx_cells (hbx _ (grown_refl _ _)).1
  obtain ⟨q3, q4, q5, q6⟩ := tx_cells (hbx _ (grown_refl _ _)).2
  by_cases hr : roomN f s = 0
  · by_cases hp2 : p < 2
    · have hN : putN f s p = 1 := by unfold putN; rw [if_neg (not_not_intro hr), if_pos hp2]
      have hW : putW f s p = f := by unfold putW; rw [hN]; rfl
      rw [hN, hW]
      rw [hr] at hrm
      have hrm' : Calls Try.prog 13 #[.agg #[.slice wa wn wc, .slice pa pn pc], .string s] ((w.alloc (.cells #[.slice wa wn wc, .slice pa pn pc] 28)).alloc (.cells #[.slice none 0 0, .slice none 0 0] 28)) fun e w' => e = .returned (.int .i64 0) ∧ _ := hrm
      have hpi : (p : Int) < 2 := by omega
      clear hrm h gA gB hg0 hbx hr hp2 hN hW hp
      go_enter Try.func23, Try.ntmps23
      go_wp2_with (first | (go_at_call 13; (with_reducible refine hrm'.mono ?_); rintro e w2 ⟨rfl, hg2⟩; obtain ⟨k1, k2⟩ := HB.out _ hg2; obtain ⟨a1, a2, _, _⟩ := tx_cells k1; obtain ⟨a3, a4, a5, a6⟩ := tx_cells k2; have HK2 := Lib.hid k2; clear k1 k2))
      have hk := two_put (x' := .slice wa wn wc) (y' := .slice pa pn pc) HK2.out
      obtain ⟨z3, z4, _, _⟩ := tx_cells hk
      have g2 := grown_trans HG0.out hg2
      have hend := grown_new (grown_trans (grown_any g2 _) (two_set (w := w2) (b := w.heap.size + 1) (x' := .slice wa wn wc) (y' := .slice pa pn pc))) (by omega)
      refine bodyPost_ret (v := .tuple #[.agg #[.slice wa wn wc, .slice pa pn pc], .int .i64 1]) (by simp [results, Try.results23, go_sem, z3, z4]) rfl ⟨_, rfl, ?_, hend⟩
      exact ((HR.out.later g2).other HK2.out two_set).more (by omega)
    · have hN : putN f s p = 0 := by unfold putN; rw [if_neg (not_not_intro hr), if_neg hp2]
      obtain ⟨hok, hsn, i, hi, hi16⟩ := room_place hr
      have hW : putW f s p = putD f i (loD s) (hiD s) p := by unfold putW; rw [if_pos hN, hi]
      rw [hN, hW]
      rw [hr] at hrm
      have hrm' : Calls Try.prog 13 #[.agg #[.slice wa wn wc, .slice pa pn pc], .string s] ((w.alloc (.cells #[.slice wa wn wc, .slice pa pn pc] 28)).alloc (.cells #[.slice none 0 0, .slice none 0 0] 28)) fun e w' => e = .returned (.int .i64 0) ∧ _ := hrm
      have hpi : ¬ (p : Int) < 2 := by omega
      have hpk := fun V => rpack13 s hs V
      simp only [decide_eq_true hok] at hpk
      have hlt := loD_lt s
      obtain ⟨lo, elo⟩ : ∃ x, loD s = x := ⟨_, rfl⟩
      obtain ⟨hi', ehi⟩ : ∃ x, hiD s = x := ⟨_, rfl⟩
      rw [elo, ehi] at hpk hlt ⊢
      have hpl := fun (V : World) (hg : w.grownBy V none) => rplace13 ((h.lds (by omega)).later hg) hs
      rw [hi] at hpl
      have hpl' : ∀ V, w.grownBy V none → Calls Try.prog 30 #[.agg #[.slice wa wn wc, .slice pa pn pc], .string s] V fun e w' => e = .returned (.int .i64 (i : Nat)) ∧ V.grownBy w' none := hpl
      have hat := fun V => rat13_any i (by omega) V
      have hd8 : dAt i % 8 = 0 ∧ dAt i + 16 < 4800 := by unfold dAt; omega
      have hfin : (fun q => if q = dAt i + 16 then p else (fun q => if q = dAt i + 8 then hi' else (fun q => if q = dAt i then lo else f q) q) q) = putD f i lo hi' p := rfl
      obtain ⟨F, eF⟩ : ∃ F, putD f i lo hi' p = F := ⟨_, rfl⟩
      rw [eF] at hfin ⊢
      obtain ⟨d, ed⟩ : ∃ d, dAt i = d := ⟨_, rfl⟩
      rw [ed] at hat hd8 hfin
      have e16 : IntKind.u64.wrap ((d : Int) + 16) = ((d + 16 : Nat) : Int) := by rw [IntKind.wrap_u64]; omega
      have e8 : IntKind.u64.wrap ((d : Int) + 8) = ((d + 8 : Nat) : Int) := by rw [IntKind.wrap_u64]; omega
      have hs1 : ∀ V, w.grownBy V none → Calls Try.prog 41 #[.agg #[.slice wa wn wc, .slice pa pn pc], .int .u64 d, .int .u64 lo] V _ := fun V hg => rd_store (v := lo) (h.later hg) (Nat.le_trans hbase hg.size) (by omega) hd8.1 (by omega)
      obtain ⟨f1, ef1⟩ : ∃ g, (fun q => if q = d then lo else f q) = g := ⟨_, rfl⟩
      rw [ef1] at hs1 hfin
      have hs2 : ∀ V pv1, w.grownBy V none → RD V base (.slice wa wn wc) pv1 ws f1 (K + 1) → Calls Try.prog 41 #[.agg #[.slice wa wn wc, pv1], .int .u64 (d + 8 : Nat), .int .u64 hi'] V _ := fun V pv1 hg h1 => rd_store (v := hi') h1 (Nat.le_trans hbase hg.size) (by omega) (by omega) (by omega)
      obtain ⟨f2, ef2⟩ : ∃ g, (fun q => if q = d + 8 then hi' else f1 q) = g := ⟨_, rfl⟩
      rw [ef2] at hs2 hfin
      have hs3 : ∀ V pv2, w.grownBy V none → RD V base (.slice wa wn wc) pv2 ws f2 (K + 1 + 1) → Calls Try.prog 41 #[.agg #[.slice wa wn wc, pv2], .int .u64 (d + 16 : Nat), .int .u64 (p : Nat)] V _ := fun V pv2 hg h2 => rd_store (v := p) h2 (Nat.le_trans hbase hg.size) (by omega) (by omega) (by omega)
      rw [hfin] at hs3
      obtain ⟨d16, ed16⟩ : ∃ q, d + 16 = q := ⟨_, rfl⟩
      obtain ⟨d8, ed8⟩ : ∃ q, d + 8 = q := ⟨_, rfl⟩
      rw [ed16] at e16 hs3
      rw [ed8] at e8 hs2
      have HS1 := Lib.hid hs1
      have HS2 := Lib.hid hs2
      have HS3 := Lib.hid hs3
      have HPL := Lib.hid hpl'
      clear hrm h gA gB hg0 hbx hr hp2 hN hW hs1 hs2 hs3 hpl hpl' hfin ed ed16 ed8 ef1 ef2 eF hi hi16 hsn hok elo ehi hd8 hbase hlt
      go_enter Try.func23, Try.ntmps23
      go_wp2_with (first
        | (go_at_call 13; (with_reducible refine hrm'.mono ?_); rintro e w2 ⟨rfl, hg2⟩; obtain ⟨k1, k2⟩ := HB.out _ hg2; obtain ⟨a1, a2, _, _⟩ := tx_cells k1; clear k1 k2)
        | (go_at_call 29; (with_reducible refine (hpk _).mono ?_); rintro e w3 ⟨rfl, hg3⟩; have ga := World.grownBy_alloc w3 (.cells #[.int .u64 (lo : Nat), .int .u64 (hi' : Nat)] 63) none; have hb9 := heap_alloc_new' w3 (.cells #[.int .u64 (lo : Nat), .int .u64 (hi' : Nat)] 63); have HB9 := Lib.hid hb9; have g23 := grown_trans hg2 hg3; have sz3 := g23.size; have g4 := grown_trans g23 ga; obtain ⟨k1, k2⟩ := HB.out _ g4; obtain ⟨a1, a2, _, _⟩ := tx_cells k1; clear k1 k2 hb9)
        | (go_at_call 30; (with_reducible refine (HPL.out _ (grown_trans HG0.out g4)).mono ?_); rintro e w4 ⟨rfl, hg4⟩; have g5 := grown_trans g4 hg4))
      obtain ⟨k1, k2⟩ := HB.out _ g5
      have k9 := (hg4.block _ (lt_of_block HB9.out) (by simp)).trans HB9.out
      obtain ⟨b9, eb9⟩ : ∃ b, w3.heap.size = b := ⟨_, rfl⟩
      rw [eb9] at k9
      have hb9w : w.heap.size + 2 ≤ b9 := by omega
      have K1 := Lib.hid k1
      have K2 := Lib.hid k2
      have K9 := Lib.hid k9
      have G5 := Lib.hid (grown_trans HG0.out g5)
      clear k1 k2 k9 a1 a2 q1 q2 q3 q4 q5 q6 HB9 HPL hrm' hpk ga g4 g5 g23 hg4 hg3 hg2 sz3 hsz0
      simp only [eb9]
      clear eb9
      rename_i KC hKC
      have hrest1 : ∀ (V : World) (qa : Option Addr) (qn qc : Nat) (u20 : Value), w.grownBy V none → RD V base (.slice wa wn wc) (.slice qa qn qc) ws f1 (K + 1) → V.heap[w.heap.size]? = some (.cells #[.slice wa wn wc, .slice qa qn qc] 28 (0, 0)) → V.heap[w.heap.size + 1]? = some (.cells #[.slice none 0 0, .slice none 0 0] 28 (0, 0)) → V.heap[b9]? = some (.cells #[.int .u64 (lo : Nat), .int .u64 (hi' : Nat)] 63 (0, 0)) → KC { tmps := #[.agg #[.slice wa wn wc, .slice pa pn pc], .string s, .int .u64 ↑p, .pointer (some ⟨w.heap.size, 0, none⟩), undef, undef, .pointer (some ⟨w.heap.size + 1, 0, none⟩), .int .i64 0, .int .i64 0, .pointer (some ⟨b9, 0, none⟩), .bool true, .int .i64 ↑i, .agg #[.slice wa wn wc, .slice pa pn pc], .string s, .int .i64 0, .int .i64 0, .bool false, undef, undef, .int .u64 ↑p, u20, undef, .tuple #[.agg #[.int .u64 ↑lo, .int .u64 ↑hi'], .bool true], .string s, .tuple #[.agg #[.int .u64 ↑lo, .int .u64 ↑hi'], .bool true], .agg #[.int .u64 ↑lo, .int .u64 ↑hi'], .bool true, .agg #[.slice wa wn wc, .slice pa pn pc], .string s, .int .i64 ↑i, .agg #[.slice wa wn wc, .slice pa pn pc], .int .i64 ↑i, .int .u64 ↑d, .pointer (some ⟨b9, 0, none⟩), .int .u64 ↑lo, .agg #[.slice wa wn wc, .slice qa qn qc], undef, undef, undef, undef, undef, undef, undef, undef, undef, undef, undef, undef, undef], defers := [] } V := by
        intro V qa qn qc u20 g1 r1 k1 k2 k9
        apply hKC
        clear hKC
        have hs2 := fun (V2 : World) (hg : V.grownBy V2 none) => HS2.out V2 _ (grown_trans g1 hg) (r1.later hg)
        have HS2' := Lib.hid hs2
        have L1 := Lib.hid k1
        have L2 := Lib.hid k2
        have L9 := Lib.hid k9
        have HG1 := Lib.hid g1
        clear hs2 k1 k2 k9 g1 r1 K1 K2 K9 G5 HS1 HS2
        go_wp2
        rename_i KD hKD
        have hrest2 : ∀ (V2 : World) (ra : Option Addr) (rn rc : Nat), w.grownBy V2 none → RD V2 base (.slice wa wn wc) (.slice ra rn rc) ws f2 (K + 1 + 1) → V2.heap[w.heap.size]? = some (.cells #[.slice wa wn wc, .slice ra rn rc] 28 (0, 0)) → V2.heap[w.heap.size + 1]? = some (.cells #[.slice none 0 0, .slice none 0 0] 28 (0, 0)) → KD { tmps := #[.agg #[.slice wa wn wc, .slice pa pn pc], .string s, .int .u64 ↑p, .pointer (some ⟨w.heap.size, 0, none⟩), undef, undef, .pointer (some ⟨w.heap.size + 1, 0, none⟩), .int .i64 0, .int .i64 0, .pointer (some ⟨b9, 0, none⟩), .bool true, .int .i64 ↑i, .agg #[.slice wa wn wc, .slice pa pn pc], .string s, .int .i64 0, .int .i64 0, .bool false, undef, undef, .int .u64 ↑p, u20, undef, .tuple #[.agg #[.int .u64 ↑lo, .int .u64 ↑hi'], .bool true], .string s, .tuple #[.agg #[.int .u64 ↑lo, .int .u64 ↑hi'], .bool true], .agg #[.int .u64 ↑lo, .int .u64 ↑hi'], .bool true, .agg #[.slice wa wn wc, .slice pa pn pc], .string s, .int .i64 ↑i, .agg #[.slice wa wn wc, .slice pa pn pc], .int .i64 ↑i, .int .u64 ↑d, .pointer (some ⟨b9, 0, none⟩), .int .u64 ↑lo, .agg #[.slice wa wn wc, .slice qa qn qc], .agg #[.slice wa wn wc, .slice qa qn qc], .int .i64 ↑i, .int .u64 ↑d, .int .u64 ↑d8, .pointer (some ⟨b9, 1, none⟩), .int .u64 ↑hi', .agg #[.slice wa wn wc, .slice ra rn rc], undef, undef, undef, undef, undef, undef], defers := [] } V2 := by
          intro V2 ra rn rc g2 r2 k1 k2
          apply hKD
          clear hKD HS2' L1 L2 L9 HG1
          have hs3 := fun (V3 : World) (hg : V2.grownBy V3 none) => HS3.out V3 _ (grown_trans g2 hg) (r2.later hg)
          have HS3' := Lib.hid hs3
          have L1 := Lib.hid k1
          have L2 := Lib.hid k2
          have HG2 := Lib.hid g2
          have hcell : ∀ V3, V2.grownBy V3 none → V3.cell? ⟨w.heap.size, 0, none⟩ = some (.slice wa wn wc) ∧ V3.cell? ⟨w.heap.size, 1, none⟩ = some (.slice ra rn rc) := fun V3 hg => by
            obtain ⟨c0, c1, _, _⟩ := tx_cells ((hg.block _ (lt_of_block L1.out) (by simp)).trans L1.out)
            exact ⟨c0, c1⟩
          have hcellS : ∀ (V3 : World) (x y : Value), V2.grownBy V3 none → ((V3.setCell ⟨w.heap.size + 1, 0, none⟩ x).setCell ⟨w.heap.size + 1, 1, none⟩ y).cell? ⟨w.heap.size, 0, none⟩ = some (.slice wa wn wc) ∧ ((V3.setCell ⟨w.heap.size + 1, 0, none⟩ x).setCell ⟨w.heap.size + 1, 1, none⟩ y).cell? ⟨w.heap.size, 1, none⟩ = some (.slice ra rn rc) := fun V3 x y hg => by
            have hb := (hg.block _ (lt_of_block L1.out) (by simp)).trans L1.out
            obtain ⟨c0, c1, _, _⟩ := tx_cells (((two_set (w := V3) (b := w.heap.size + 1) (x' := x) (y' := y)).block _ (lt_of_block hb) (by simp)).trans hb)
            exact ⟨c0, c1⟩
          have HCELL := Lib.hid hcell
          have HCELLS := Lib.hid hcellS
          have HG : V2.grownBy V2.drew none := grown_drew (grown_refl _ _)
          obtain ⟨c0, c1⟩ := hcell _ HG
          clear hs3 k1 k2 g2 r2 HS3 hcell hcellS
          go_wp2
          go_region_held3 (fun V3 => V3.cell? ⟨w.heap.size, 0, none⟩ = some (.slice wa wn wc) ∧ V3.cell? ⟨w.heap.size, 1, none⟩ = some (.slice ra rn rc)) (first | exact HCELL.out _ HG | exact HCELLS.out _ _ _ HG) (first
            | (go_at_call 27; (with_reducible refine (hat _).mono ?_); rintro e w7 ⟨rfl, rfl⟩)
            | (go_at_call 41; (with_reducible refine (HS3'.out _ HG).mono ?_); rintro e w8 ⟨pv3, rfl, hr8, hg8⟩; obtain ⟨sa, sn, sc, rfl⟩ := hr8.form.2; replace HG := grown_trans HG hg8; have k2 := (HG.block _ (lt_of_block L2.out) (by simp)).trans L2.out; obtain ⟨a3, a4, a5, a6⟩ := tx_cells k2; have HK2 := Lib.hid k2; clear k2))
          go_wp2
          have hk := two_put (x' := .slice wa wn wc) (y' := .slice sa sn sc) HK2.out
          obtain ⟨z3, z4, _, _⟩ := tx_cells hk
          have g3 := grown_trans HG2.out HG
          have hend := grown_new (grown_trans (grown_any g3 _) (two_set (w := w8) (b := w.heap.size + 1) (x' := .slice wa wn wc) (y' := .slice sa sn sc))) (by omega)
          refine bodyPost_ret (v := .tuple #[.agg #[.slice wa wn wc, .slice sa sn sc], .int .i64 0]) (by simp [results, Try.results23, go_sem, z3, z4]) rfl ⟨_, rfl, ?_, hend⟩
          exact hr8.other HK2.out two_set
        have HG : V.grownBy V.drew none := grown_drew (grown_refl _ _)
        obtain ⟨t0, t1, t2, t3⟩ := tx_cells ((HG.block _ (lt_of_block L1.out) (by simp)).trans L1.out)
        obtain ⟨u0, u1, _, _⟩ := tx_cells ((HG.block _ (lt_of_block L9.out) (by simp)).trans L9.out)
        go_region_law (first | (go_simp; go_at_call 27; go_must ((with_reducible refine (hat _).mono ?_); rintro e w5 ⟨rfl, rfl⟩)) | (go_simp; go_at_call 41; go_must ((with_reducible refine (HS2'.out _ HG).mono ?_); rintro e w6 ⟨pv1, rfl, hr6, hg6⟩; obtain ⟨ra, rn, rc, rfl⟩ := hr6.form.2; replace HG := grown_trans HG hg6; obtain ⟨t0, t1, t2, t3⟩ := tx_cells ((HG.block _ (lt_of_block L1.out) (by simp)).trans L1.out))))
        all_goals
          have B0 := (HG.block _ (lt_of_block L1.out) (by simp)).trans L1.out
          have B1 := (HG.block _ (lt_of_block L2.out) (by simp)).trans L2.out
          have hset := two_set (w := w6) (b := w.heap.size) (x' := .slice wa wn wc) (y' := .slice ra rn rc)
          exact hrest2 _ ra rn rc (grown_new (grown_trans (grown_any (grown_trans HG1.out HG) _) hset) (Nat.le_refl _)) (hr6.other B0 hset) (two_put B0) ((hset.block _ (lt_of_block B1) (by simp)).trans B1)
      have HG : w4.grownBy w4.drew none := grown_drew (grown_refl _ _)
      obtain ⟨t0, t1, t2, t3⟩ := tx_cells ((HG.block _ (lt_of_block K1.out) (by simp)).trans K1.out)
      obtain ⟨u0, u1, _, _⟩ := tx_cells ((HG.block _ (lt_of_block K9.out) (by simp)).trans K9.out)
      go_region_law (first | (go_simp; go_at_call 27; go_must ((with_reducible refine (hat _).mono ?_); rintro e w5 ⟨rfl, rfl⟩)) | (go_simp; go_at_call 41; go_must ((with_reducible refine (HS1.out _ (grown_trans G5.out HG)).mono ?_); rintro e w6 ⟨pv1, rfl, hr6, hg6⟩; obtain ⟨qa, qn, qc, rfl⟩ := hr6.form.2; replace HG := grown_trans HG hg6; obtain ⟨t0, t1, t2, t3⟩ := tx_cells ((HG.block _ (lt_of_block K1.out) (by simp)).trans K1.out))))
      all_goals
        have B0 := (HG.block _ (lt_of_block K1.out) (by simp)).trans K1.out
        have B1 := (HG.block _ (lt_of_block K2.out) (by simp)).trans K2.out
        have B9 := (HG.block _ (lt_of_block K9.out) (by simp)).trans K9.out
        have hset := two_set (w := w6) (b := w.heap.size) (x' := .slice wa wn wc) (y' := .slice qa qn qc)
        exact hrest1 _ qa qn qc _ (grown_new (grown_trans (grown_any (grown_trans G5.out HG) _) hset) (Nat.le_refl _)) (hr6.other B0 hset) (two_put B0) ((hset.block _ (lt_of_block B1) (by simp)).trans B1) ((hset.block _ (lt_of_block B9) (by simp; omega)).trans B9)
  · have hN : putN f s p = roomN f s := by unfold putN; rw [if_pos hr]
    have hW : putW f s p = f := by unfold putW; rw [hN, if_neg hr]
    rw [hN, hW]
    obtain ⟨r, er⟩ : ∃ r, roomN f s = r := ⟨_, rfl⟩
    rw [er] at hrm hr ⊢
    have hrm' := hrm
    have hri : ¬ (r : Int) = 0 := by omega
    have hri' : ((r : Int) != 0) = true := by simpa using hri
    clear hrm h gA gB hg0 hbx hr hN hW er
    go_enter Try.func23, Try.ntmps23
    go_wp2_with (first | (go_at_call 13; (with_reducible refine hrm'.mono ?_); rintro e w2 ⟨rfl, hg2⟩; obtain ⟨k1, k2⟩ := HB.out _ hg2; obtain ⟨a1, a2, _, _⟩ := tx_cells k1; obtain ⟨a3, a4, a5, a6⟩ := tx_cells k2; have HK2 := Lib.hid k2; clear k1 k2))
    have hk := two_put (x' := .slice wa wn wc) (y' := .slice pa pn pc) HK2.out
    obtain ⟨z3, z4, _, _⟩ := tx_cells hk
    have g2 := grown_trans HG0.out hg2
    have hend := grown_new (grown_trans (grown_any g2 _) (two_set (w := w2) (b := w.heap.size + 1) (x' := .slice wa wn wc) (y' := .slice pa pn pc))) (by omega)
    refine bodyPost_ret (v := .tuple #[.agg #[.slice wa wn wc, .slice pa pn pc], .int .i64 (r : Nat)]) (by simp [results, Try.results23, go_sem, z3, z4]) rfl ⟨_, rfl, ?_, hend⟩
    exact ((HR.out.later g2).other HK2.out two_set).more (by omega)
end
end Go.Proofs.Ytkkkgikmeiocaaa
