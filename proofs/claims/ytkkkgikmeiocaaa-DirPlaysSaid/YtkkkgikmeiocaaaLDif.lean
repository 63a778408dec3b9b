/-
  Texts of one layer, one behind the other: memory, contracts of the functions, and what follows of them.
  Conditions: as each theorem says.
-/
import Derived.Test.YtkkkgikmeiocaaaDirJ
import Derived.Test.YtkkkgikmeiocaaaLDie
import Derived.Test.YtkkkgikmeiocaaaLTaa
import Derived.Deep.RegionHeld3
set_option linter.unusedVariables false
set_option linter.unusedSimpArgs false
namespace Go.Proofs.Ytkkkgikmeiocaaa
open Go.RowKit Go.Shelf
set_option maxRecDepth 100000
attribute [local go_sem] Oper.semAt_some
theorem nmdF_yes {f : Nat → Nat} {p : Nat} (hp : 1 < p) : ∀ {n k q : Nat}, k ≤ q → q < k + n → f (dAt q + 16) = p → nmdF f p n k = true
  | 0, k, q, h1, h2, _ => by omega
  | n + 1, k, q, h1, h2, h3 => by
    unfold nmdF
    by_cases h : 1 < p ∧ f (dAt k + 16) = p
    · rw [if_pos h]
    · rw [if_neg h]
      refine nmdF_yes hp (q := q) ?_ (by omega) h3
      rcases Nat.lt_or_ge k q with h4 | h4
      · exact h4
      · obtain rfl : q = k := by omega
        exact absurd ⟨hp, h3⟩ h
theorem nmdF_no {f : Nat → Nat} {p : Nat} : ∀ {n k : Nat}, (∀ q, k ≤ q → q < k + n → ¬ (1 < p ∧ f (dAt q + 16) = p)) → nmdF f p n k = false
  | 0, k, _ => rfl
  | n + 1, k, h => by
    unfold nmdF
    rw [if_neg (h k (Nat.le_refl _) (by omega))]
    exact nmdF_no fun q h1 h2 => h q (by omega) (by omega)
structure NmI (w : World) (f : Nat → Nat) (q bw : Nat) (pre : List Nat) (W : World) : Prop where
  no : ∀ k ∈ pre, f (dAt ((0 % 16 + k) % 16) + 16) ≠ q
  key : Boxed W w.heap.size 31 (.int .u64 q)
  res : Boxed W (w.heap.size + 1) 4 (.bool false)
  below : Below w.heap.size w W
  big : bw ≤ W.heap.size
structure NmX (w : World) (f : Nat → Nat) (q : Nat) (c : Code) (pre : List Nat) (W : World) : Prop where
  jump : c = .ret
  yes : ∃ k ∈ pre, f (dAt ((0 % 16 + k) % 16) + 16) = q
  res : Boxed W (w.heap.size + 1) 4 (.bool true)
  below : Below w.heap.size w W
theorem NmI.own (w : World) (n : Nat) (f : Nat → Nat) (q bw : Nat) (hn : w.heap.size ≤ n) : OwnFrom n (NmI w f q bw) := fun pre X Y row hs hg hr =>
  ⟨hs.no, cells_past13 hg hr hs.key, cells_past13 hg hr hs.res, hs.below.grown hg hs.below.size (fun k e => Nat.le_trans hn (hr k e).1), Nat.le_trans hs.big hg.size⟩
theorem NmX.own (w : World) (n : Nat) (f : Nat → Nat) (q : Nat) (c : Code) (hn : w.heap.size ≤ n) : OwnFrom n (NmX w f q c) := fun pre X Y row hs hg hr =>
  ⟨hs.jump, hs.yes, cells_past13 hg hr hs.res, hs.below.grown hg hs.below.size (fun k e => Nat.le_trans hn (hr k e).1)⟩
theorem NmI.later {w W W' : World} {f : Nat → Nat} {q bw : Nat} {pre : List Nat} (hs : NmI w f q bw pre W) (hg : W.grownBy W' none) : NmI w f q bw pre W' :=
  ⟨hs.no, hs.key.kept hg (by simp), hs.res.kept hg (by simp), hs.below.grown hg hs.below.size (fun k e => by cases e), Nat.le_trans hs.big hg.size⟩
set_option maxHeartbeats 4000000 in
theorem cnamed_in {w : World} {p : Option Addr} {f : Nat → Nat} (hld : TLd w p f) (q : Nat) (hq : q < 18446744073709551616) :
    CallsIn Fence.wide 6 Try.prog 17 #[.pointer p, .int .u64 q] w fun e w' => e = .returned (.bool (nmdF f q 16 0)) ∧ w.grownBy w' none := by
  have hcs := fun V => (callsIn_wide (n := 5)).2 (cstands_any q V)
  have hro : ∀ V : World, CallsIn Fence.wide 5 Try.prog 31 #[.pointer p, .int .u64 0] V _ := fun V => (callsIn_wide (n := 5)).2 (cround_any p 0 V)
  have hst := fun (W0 : World) (tb : Nat) => cround_stops (w0 := W0) (tb := tb) (f := f) (w := w) (p := p) (n := 0) hld (by decide)
  replace hst : ∀ (W0 : World) (tb : Nat), Below w.heap.size w W0 → Boxed W0 tb 25 (.pointer p) → Boxed W0 (tb + 1) 31 (.int .u64 0) → SeqStopsK Fence.wide 5 Try.prog 46 #[.pointer (some ⟨tb, 0, none⟩), .pointer (some ⟨tb + 1, 0, none⟩)] (fun x : Nat => #[slV f ((0 % 16 + x) % 16)]) (RdK w.heap.size tb (.pointer p) (.int .u64 0)) (fun ys => ys = List.range 16) (fun pre => ∃ k, k < 16 ∧ pre = List.range (k + 1)) 16 W0 := hst
  have HST := Lib.hid hst
  obtain ⟨r0, er⟩ : ∃ r, nmdF f q 16 0 = r := ⟨_, rfl⟩
  rw [er]
  have ER := Lib.hid er
  clear hst er hld
  have b0 := Boxed.new w 31 (.int .u64 q)
  have hgr : w.grownBy ((w.alloc (.cells #[.int .u64 q] 31)).alloc (.cells #[.bool false] 4)) none := grown_trans (World.grownBy_alloc _ _ _) (World.grownBy_alloc _ _ _)
  have r1 : Boxed ((w.alloc (.cells #[.int .u64 q] 31)).alloc (.cells #[.bool false] 4)) w.heap.size 31 (.int .u64 q) := b0.alloc _
  have r2 : Boxed ((w.alloc (.cells #[.int .u64 q] 31)).alloc (.cells #[.bool false] 4)) (w.heap.size + 1) 4 (.bool false) := by
    have := Boxed.new (w.alloc (.cells #[.int .u64 q] 31)) 4 (.bool false)
    rwa [World.size_alloc] at this
  have hsA : ((w.alloc (.cells #[.int .u64 q] 31)).alloc (.cells #[.bool false] 4)).heap.size = w.heap.size + 2 := by simp
  have c0 := r1.cell
  have c1 := r2.cell
  have z1 := r2.frozen
  by_cases h1 : 1 < q
  · simp only [decide_eq_true h1] at hcs
    have H1 := Lib.hid h1
    clear h1 b0
    refine callsIn_of_wp_marks Try.func17 rfl trivial ?_ rfl
    simp only [Try.ntmps17, List.size_toArray, List.length_cons, List.length_nil, Nat.reduceAdd, Nat.reduceSub, Array.replicate_succ, Array.replicate_zero, List.push_toArray, List.append_toArray, List.nil_append, List.cons_append]
    gi_wp2_with (first | (refine ⟨trivial, ?_⟩; gi_at_call 32; (with_reducible refine (hcs _).mono ?_); rintro e w2 ⟨rfl, rfl⟩) | (refine ⟨trivial, ?_⟩; gi_at_call 31; (with_reducible refine (hro _).mono ?_); rintro e w3 ⟨rfl, rfl⟩))
    obtain ⟨A0, hA0⟩ : ∃ W, (w.alloc (.cells #[.int .u64 q] 31)).alloc (.cells #[.bool false] 4) = W := ⟨_, rfl⟩
    rw [hA0] at hgr r1 r2 hsA ⊢
    obtain ⟨A1, hA1⟩ : ∃ W, A0.alloc (.cells #[.pointer p] 25) = W := ⟨_, rfl⟩
    have b3 : Boxed A1 (w.heap.size + 2) 25 (.pointer p) := by rw [← hA1, ← hsA]; exact Boxed.new _ _ _
    have hz1 : A1.heap.size = w.heap.size + 2 + 1 := by rw [← hA1, World.size_alloc, hsA]
    have g3 : A0.grownBy A1 none := by rw [← hA1]; exact World.grownBy_alloc _ _ _
    rw [hA1]
    obtain ⟨W0, hW0⟩ : ∃ W, A1.alloc (.cells #[.int .u64 0] 31) = W := ⟨_, rfl⟩
    have b4 : Boxed W0 (w.heap.size + 2 + 1) 31 (.int .u64 0) := by rw [← hW0, ← hz1]; exact Boxed.new _ _ _
    have hz2 : W0.heap.size = w.heap.size + 4 := by rw [← hW0, World.size_alloc, hz1]
    have g4 : A1.grownBy W0 none := by rw [← hW0]; exact World.grownBy_alloc _ _ _
    rw [hW0]
    have g34 := grown_trans g3 g4
    have gA := grown_trans hgr g34
    have k1 := r1.kept g34 (by simp)
    have k2 := r2.kept g34 (by simp)
    have k4 := b3.kept g4 (by simp)
    have hseq := HST.out W0 (w.heap.size + 2) (grown_below gA) k4 b4
    clear hW0 hA0 hA1 HST hcs hro b3 b4 k4 r1 r2 g3 g4 g34 hgr hz1 hsA c0 c1 z1
    refine wpIn_rangeFunc_ownH rfl (by decide) (gf := 46) (lb := #[.pointer (some ⟨w.heap.size + 2, 0, none⟩), .pointer (some ⟨w.heap.size + 2 + 1, 0, none⟩)]) rfl trivial (enters_of Try.func46 (by kernel_rfl) rfl) hseq (fun h k => RdK.trans h k) (fun W l o o' hl h hc hw => RdK.put (w0 := W0) gA.size (by omega) W l o o' hl h hc hw) (Below.refl _ _) (fun _ => rfl)
      (NmI w f q (w.heap.size + 4)) (NmX w f q) (NmI.own w _ f q _ gA.size) (fun c => NmX.own w _ f q c gA.size)
      ⟨fun j hj => absurd hj (by simp), k1, k2, grown_below gA, by omega⟩
      (fun x a' W => ∃ B, w.heap.size + 4 ≤ B ∧ W.heap[B]? = some (.cells (slC f ((0 % 16 + x) % 16)) 65 (0, 0)) ∧ a' = { tmps := #[.pointer p, .int .u64 q, undef, .pointer (some ⟨w.heap.size, 0, none⟩), .pointer (some ⟨w.heap.size + 1, 0, none⟩), .pointer (some ⟨B, 0, none⟩), .int .u64 q, .bool true, .bool false, .pointer p, .func (.func 46) #[] #[.pointer (some ⟨w.heap.size + 2, 0, none⟩), .pointer (some ⟨w.heap.size + 2 + 1, 0, none⟩)], slV f ((0 % 16 + x) % 16), undef, undef, undef, undef], defers := [] })
      (fun x a' _ X Y row hs hg hr => by
        obtain ⟨B, q1, q2, q3⟩ := hs
        exact ⟨B, q1, cells_past13 hg hr q2, q3⟩)
      ?assign ?body ?done ?stop
    case assign =>
      rintro yl pre x W K hI hK
      obtain ⟨j, ej⟩ : ∃ j, (0 % 16 + x) % 16 = j := ⟨_, rfl⟩
      rw [ej] at hK ⊢
      unfold slC at hK
      unfold slV at hK ⊢
      gi_wp2
      exact hK _ _ ((KeepsOthers.alloc _ _).from _) (RdK.grown (row := none) hI.below.size (World.grownBy_alloc _ _ _) (fun r e => by cases e)) (hI.later (World.grownBy_alloc _ _ _)) ⟨W.heap.size, hI.big, heap_alloc_new' _ _, rfl⟩
    case body =>
      rintro yl pre x a' W hl ⟨r, hr⟩ hI ⟨B, hB, hc, rfl⟩ hlt2
      have hno := hI.no
      have hsum : ∀ k ∈ pre ++ [x], k ∈ pre ∨ k = x := fun k hk => by
        rcases List.mem_append.1 hk with h | h
        · exact .inl h
        · exact .inr (List.mem_singleton.1 h)
      obtain ⟨c0, c1, c2, c3⟩ := four_cells hc
      have ck := hI.key.cell
      have cr := hI.res.cell
      have zr := hI.res.frozen
      obtain ⟨j, ej⟩ : ∃ j, (0 % 16 + x) % 16 = j := ⟨_, rfl⟩
      unfold slV
      rw [ej] at hc c0 c1 c2 c3 ⊢
      obtain ⟨d, ed⟩ : ∃ d, dAt j = d := ⟨_, rfl⟩
      rw [ed] at c0 c1 c2 c3 ⊢
      obtain ⟨x0, ex0⟩ : ∃ q, f d = q := ⟨_, rfl⟩
      obtain ⟨x8, ex8⟩ : ∃ q, f (d + 8) = q := ⟨_, rfl⟩
      obtain ⟨x16, ex16⟩ : ∃ q, f (d + 16) = q := ⟨_, rfl⟩
      rw [ex0, ex8, ex16]
      rw [ex0] at c1
      rw [ex8] at c2
      rw [ex16] at c3
      have hfx : f (dAt ((0 % 16 + x) % 16) + 16) = x16 := by rw [ej, ed, ex16]
      by_cases hx : x16 = q
      · have hxi : ((x16 : Int) == (q : Int)) = true := by rw [hx]; simp
        have HI := Lib.hid hI
        have HFX := Lib.hid (hfx.trans hx)
        have hxi' : (x16 : Int) = (q : Int) := by omega
        clear hI hfx hno hsum hx hc hxi
        gi_wp2
        exact ⟨(KeepsOthers.setCell _ _ _).from _, rfl, ⟨x, by simp, HFX.out⟩, HI.out.res.set _, HI.out.below.setCell (p := ⟨w.heap.size + 1, 0, none⟩) (by show w.heap.size ≤ w.heap.size + 1; omega) _⟩
      · have hxi : ¬ (x16 : Int) = (q : Int) := by omega
        have hgo : NmI w f q (w.heap.size + 4) (pre ++ [x]) W := ⟨fun k hk => by
          rcases hsum k hk with h | rfl
          · exact hno k h
          · rw [hfx]; exact hx, hI.key, hI.res, hI.below, hI.big⟩
        have HGO := Lib.hid hgo
        clear hI hgo hfx hno hsum hx hc
        gi_wp2
        exact ⟨(KeepsOthers.refl _).from _, RdK.refl _ _ _ _ _, HGO.out⟩
    case done =>
      rintro D2 ys W hD rfl hI hK
      have HR := Lib.hid ((nmdF_no (p := q) (n := 16) (k := 0) fun k _ hk h => hI.no k (List.mem_range.2 (by omega)) (by rw [show (0 % 16 + k) % 16 = k by omega]; exact h.2)).symm.trans ER.out)
      have cr := hI.res.cell
      have zr := hI.res.frozen
      have HI := Lib.hid hI
      clear hI
      gi_wp2
      have q2 := HI.out.res.set (.bool false)
      have q3 := HI.out.below.setCell (p := ⟨w.heap.size + 1, 0, none⟩) (by show w.heap.size ≤ w.heap.size + 1; omega) (.bool false)
      have hK2 := (KeepsOthers.setCell W ⟨w.heap.size + 1, 0, none⟩ (.bool false)).same D2 _ hK rfl
      obtain ⟨W2, hW2⟩ : ∃ W2, W.setCell ⟨w.heap.size + 1, 0, none⟩ (.bool false) = W2 := ⟨_, rfl⟩
      rw [hW2] at q2 q3 hK2 ⊢
      have gp := grownBy_putObj' W2 D2 (.deferred none)
      have p4 := (q2.kept gp (by simp; omega)).cell
      refine ⟨by simp, .inl ⟨_, _, rfl, run_takeDeferred hK2, ?_⟩⟩
      refine ⟨.bool false, by simp [results, Try.results17, go_sem, p4], by rw [← HR.out], below_grown (q3.trans (belowK_b (w := w) (Nat.le_refl _) W2 D2 _ _ (by omega) hK2 rfl rfl))⟩
    case stop =>
      rintro D2 c pre W hD ⟨k, hk, rfl⟩ hX hK
      have hB := hX.below
      obtain rfl := hX.jump
      obtain ⟨m, hm, h3⟩ := hX.yes
      have hm := List.mem_range.1 hm
      have HR := Lib.hid ((nmdF_yes (f := f) H1.out (n := 16) (k := 0) (q := m) (Nat.zero_le _) (by omega) (by rw [show (0 % 16 + m) % 16 = m by omega] at h3; exact h3)).symm.trans ER.out)
      have H6 := Lib.hid hX.res
      clear hX h3
      gi_wp2
      have gp := grownBy_putObj' W D2 (.deferred none)
      have p4 := (H6.out.kept gp (by simp; omega)).cell
      refine ⟨by simp, .inl ⟨_, _, rfl, run_takeDeferred hK, ?_⟩⟩
      refine ⟨.bool true, by simp [results, Try.results17, go_sem, p4], by rw [← HR.out], below_grown (hB.trans (belowK_b (w := w) (Nat.le_refl _) W D2 _ _ (by omega) hK rfl rfl))⟩
  · have HR := Lib.hid ((nmdF_no (f := f) (p := q) (n := 16) (k := 0) fun k _ _ h => h1 h.1).symm.trans ER.out)
    simp only [decide_eq_false h1] at hcs
    clear h1 b0 HST
    refine callsIn_of_wp_marks Try.func17 rfl trivial ?_ rfl
    simp only [Try.ntmps17, List.size_toArray, List.length_cons, List.length_nil, Nat.reduceAdd, Nat.reduceSub, Array.replicate_succ, Array.replicate_zero, List.push_toArray, List.append_toArray, List.nil_append, List.cons_append]
    gi_wp2_with (first | (refine ⟨trivial, ?_⟩; gi_at_call 32; (with_reducible refine (hcs _).mono ?_); rintro e w2 ⟨rfl, rfl⟩))
    refine ⟨.bool false, by simp [results, Try.results17, go_sem, c1], by rw [← HR.out], hgr⟩
theorem cnamed_any {w : World} {p : Option Addr} {f : Nat → Nat} (hld : TLd w p f) (q : Nat) (hq : q < 18446744073709551616) :
    Calls Try.prog 17 #[.pointer p, .int .u64 q] w fun e w' => e = .returned (.bool (nmdF f q 16 0)) ∧ w.grownBy w' none := callsIn_wide.1 (cnamed_in hld q hq)
end Go.Proofs.Ytkkkgikmeiocaaa
namespace Go.Proofs.Ytkkkgikmeiocaaa
open Go.RowKit
set_option maxRecDepth 100000
def entAt (f : Nat → Nat) (i : Nat) : Option (ByteArray × Nat) := if 1 < f (dAt i + 16) then (nameD (f (dAt i)) (f (dAt i + 8))).map fun s => (s, f (dAt i + 16)) else none
def entK (f : Nat → Nat) (n : Nat) : List (ByteArray × Nat) := (List.range n).filterMap (entAt f)
theorem entK_snoc (f : Nat → Nat) (n : Nat) : entK f (n + 1) = entK f n ++ (entAt f n).toList := by
  unfold entK
  rw [List.range_succ, List.filterMap_append]
  cases e : entAt f n with
  | none => simp [e]
  | some x => simp [e]
theorem entK_len (f : Nat → Nat) (n : Nat) : (entK f n).length ≤ n := by
  unfold entK
  exact Nat.le_trans (List.length_filterMap_le _ _) (by simp)
section
variable {w w' : World} {f : Nat → Nat} {wv pv : Value}
set_option maxHeartbeats 8000000 in
theorem rall13 (hld : RLd w (.agg #[wv, pv]) f) (hf : ∀ x, f x < 18446744073709551616) :
    Calls Try.prog 16 #[.agg #[wv, pv]] w fun e w' => ∃ v, e = .returned v ∧ OwnN w' w.heap.size 74 v (entK f 16) ∧ w.grownBy w' none := by
  have hg0 := World.grownBy_alloc w (.cells #[wv, pv] 28) none
  have hsz0 : (w.alloc (.cells #[wv, pv] 28)).heap.size = w.heap.size + 1 := by simp
  obtain ⟨W0, hW0⟩ : ∃ W0, w.alloc (.cells #[wv, pv] 28) = W0 := ⟨_, rfl⟩
  have hbox : ∀ w', W0.grownBy w' none → w'.heap[w.heap.size]? = some (.cells #[wv, pv] 28 (0, 0)) := fun w' hg => tx_one (hW0 ▸ hg)
  rw [hW0] at hg0 hsz0
  have HB := Lib.hid hbox
  have HL := Lib.hid (hld.later hg0)
  have HG0 := Lib.hid hg0
  have HF := Lib.hid hf
  clear hld hbox hg0 hf
  go_enter Try.func16, Try.ntmps16
  go_wp2
  clear hW0
  go_loopw [3, 4] (fun v i wr => ∃ k : Nat, k ≤ 16 ∧ i = .int .i64 k ∧ W0.grownBy wr none ∧ OwnN wr W0.heap.size 74 v (entK f k)) (fun _ i _ => 16 - (intOf i).toNat)
  case atStart => exact ⟨0, Nat.zero_le _, rfl, grown_refl _ _, World.ownsRow_nil _ _ _ _⟩
  case round =>
    obtain ⟨k, hk, rfl, hgr, hown⟩ := hrel
    by_cases h1 : k < 16
    · have hsn := entK_snoc f k
      have hlen := entK_len f k
      unfold entAt at hsn
      have hat := fun V => rat13_any k (by omega) V
      have hlt : dAt k + 16 < 4000 := by unfold dAt; omega
      obtain ⟨d, ed⟩ : ∃ d, dAt k = d := ⟨_, rfl⟩
      rw [ed] at hsn hlt hat
      have e16 : IntKind.u64.wrap ((d : Int) + 16) = ((d + 16 : Nat) : Int) := by rw [IntKind.wrap_u64]; omega
      have e8 : IntKind.u64.wrap ((d : Int) + 8) = ((d + 8 : Nat) : Int) := by rw [IntKind.wrap_u64]; omega
      have hl16 := fun V (hg : wr.grownBy V none) => HL.out V (d + 16) (grown_trans hgr hg) (by omega)
      have hl8 := fun V (hg : wr.grownBy V none) => HL.out V (d + 8) (grown_trans hgr hg) (by omega)
      have hl0 := fun V (hg : wr.grownBy V none) => HL.out V d (grown_trans hgr hg) (by omega)
      have hnm := (bothname13 (HF.out d) (HF.out (d + 8))).2
      obtain ⟨x, ex⟩ : ∃ x, f (d + 16) = x := ⟨_, rfl⟩
      obtain ⟨x0, ex0⟩ : ∃ x, f d = x := ⟨_, rfl⟩
      obtain ⟨x8, ex8⟩ : ∃ x, f (d + 8) = x := ⟨_, rfl⟩
      rw [ex] at hl16
      rw [ex0] at hl0 hnm
      rw [ex8] at hl8 hnm
      rw [ex, ex0, ex8] at hsn
      obtain ⟨d16, ed16⟩ : ∃ q, d + 16 = q := ⟨_, rfl⟩
      obtain ⟨d8, ed8⟩ : ∃ q, d + 8 = q := ⟨_, rfl⟩
      rw [ed16] at e16 hl16
      rw [ed8] at e8 hl8
      obtain ⟨o, eo⟩ : ∃ o, nameD x0 x8 = o := ⟨_, rfl⟩
      rw [eo] at hnm hsn
      obtain ⟨sn, esn⟩ : ∃ s, o.getD ByteArray.empty = s := ⟨_, rfl⟩
      obtain ⟨ok, eok⟩ : ∃ b, o.isSome = b := ⟨_, rfl⟩
      rw [esn, eok] at hnm
      have HL16 := Lib.hid hl16
      have HL8 := Lib.hid hl8
      have HL0 := Lib.hid hl0
      have HNM := Lib.hid hnm
      have HOWN := Lib.hid hown
      have HGR := Lib.hid hgr
      have hki : (k : Int) < 16 := by omega
      have hk1 : IntKind.i64.wrap ((k : Int) + 1) = ((k + 1 : Nat) : Int) := by rw [IntKind.wrap_i64]; omega
      have hms : 16 - (k + 1) < 16 - k := by omega
      have hk16 : k < 16 := h1
      have hcell : ∀ V, wr.grownBy V none → V.cell? ⟨w.heap.size, 0, none⟩ = some wv ∧ V.cell? ⟨w.heap.size, 1, none⟩ = some pv := fun V hg => by
        obtain ⟨c0, c1, _, _⟩ := tx_cells (HB.out _ (grown_trans hgr hg))
        exact ⟨c0, c1⟩
      have HCELL := Lib.hid hcell
      have HG : wr.grownBy wr.drew none := grown_drew (grown_refl _ _)
      obtain ⟨c0, c1⟩ := hcell _ HG
      have HSN := Lib.hid hsn
      have HESN := Lib.hid esn
      have HEOK := Lib.hid eok
      obtain ⟨va, vc, hv⟩ := hown.form
      obtain ⟨vn, evn⟩ : ∃ n, (entK f k).length = n := ⟨_, rfl⟩
      rw [evn] at hv hlen
      have HEVN := Lib.hid evn
      subst hv
      clear hcell hlt ed ex ex0 ex8 ed16 ed8 eo esn eok hl16 hl8 hl0 hnm hown hgr h1 hsn evn
      go_wp2
      go_region_held3 (fun V => V.cell? ⟨w.heap.size, 0, none⟩ = some wv ∧ V.cell? ⟨w.heap.size, 1, none⟩ = some pv) (exact HCELL.out _ HG) (first
        | (go_at_call 27; (with_reducible refine (hat _).mono ?_); rintro e w2 ⟨rfl, rfl⟩)
        | (go_at_call 26; (with_reducible refine (HL16.out _ HG).mono ?_); rintro e w3 ⟨rfl, hg3⟩; replace HG := grown_trans HG hg3; obtain ⟨c0, c1⟩ := HCELL.out _ HG)
        | (go_at_call 26; (with_reducible refine (HL0.out _ HG).mono ?_); rintro e w3 ⟨rfl, hg3⟩; replace HG := grown_trans HG hg3; obtain ⟨c0, c1⟩ := HCELL.out _ HG)
        | (go_at_call 26; (with_reducible refine (HL8.out _ HG).mono ?_); rintro e w3 ⟨rfl, hg3⟩; replace HG := grown_trans HG hg3; obtain ⟨c0, c1⟩ := HCELL.out _ HG)
        | (go_at_call 34; (with_reducible refine (HNM.out _).mono ?_); rintro e w3 ⟨rfl, hg3⟩; replace HG := grown_trans HG hg3; obtain ⟨c0, c1⟩ := HCELL.out _ HG))
      replace HG : wr.grownBy _ none := grown_drew HG
      obtain ⟨c0, c1⟩ := HCELL.out _ HG
      go_wp2
      go_region_held3 (fun V => V.cell? ⟨w.heap.size, 0, none⟩ = some wv ∧ V.cell? ⟨w.heap.size, 1, none⟩ = some pv) (exact HCELL.out _ HG) (first
        | (go_at_call 27; (with_reducible refine (hat _).mono ?_); rintro e w2 ⟨rfl, rfl⟩)
        | (go_at_call 26; (with_reducible refine (HL16.out _ HG).mono ?_); rintro e w3 ⟨rfl, hg3⟩; replace HG := grown_trans HG hg3; obtain ⟨c0, c1⟩ := HCELL.out _ HG)
        | (go_at_call 26; (with_reducible refine (HL0.out _ HG).mono ?_); rintro e w3 ⟨rfl, hg3⟩; replace HG := grown_trans HG hg3; obtain ⟨c0, c1⟩ := HCELL.out _ HG)
        | (go_at_call 26; (with_reducible refine (HL8.out _ HG).mono ?_); rintro e w3 ⟨rfl, hg3⟩; replace HG := grown_trans HG hg3; obtain ⟨c0, c1⟩ := HCELL.out _ HG)
        | (go_at_call 34; (with_reducible refine (HNM.out _).mono ?_); rintro e w3 ⟨rfl, hg3⟩; replace HG := grown_trans HG hg3; obtain ⟨c0, c1⟩ := HCELL.out _ HG))
      have hgw := grown_trans HGR.out HG
      have hown3 := HOWN.out.later HG
      have hsz3 := hgw.size
      by_cases hx1 : 1 < x
      · have hx1i : (1 : Int) < (x : Int) := by omega
        cases ok with
        | true =>
          have hsn : entK f (k + 1) = entK f k ++ [(sn, x)] := by
            rw [HSN.out, if_pos hx1]
            have h5 := HEOK.out
            have h6 := HESN.out
            cases o with
            | none => cases h5
            | some s => simp only [Option.getD_some] at h6; subst h6; rfl
          have HSN2 := Lib.hid hsn
          clear hsn hx1
          go_wp2_with (first | (at_builtin; go_must (refine wpList_append_rent hown3 (by rw [HEVN.out]; omega) hsz3 sn x rfl _ _ rfl rfl rfl ?_); intro v' w5 hown5 hg5))
          go_roundw
          case rel => exact ⟨k + 1, by omega, by go_num, grown_step hgw hg5 (fun i hi => .inl (hown3.new hi)), by rw [HSN2.out]; exact hown5⟩
          case measure => simp [intOf]; omega
        | false =>
          have hsn : entK f (k + 1) = entK f k := by
            rw [HSN.out, if_pos hx1]
            have h5 := HEOK.out
            cases o with
            | none => simp
            | some s => cases h5
          have HSN2 := Lib.hid hsn
          clear hsn hx1
          go_wp2
          go_roundw
          case rel => exact ⟨k + 1, by omega, by go_num, hgw, by rw [HSN2.out]; exact hown3⟩
          case measure => simp [intOf]; omega
      · have hx1i : ¬ (1 : Int) < (x : Int) := by omega
        have hsn : entK f (k + 1) = entK f k := by
          rw [HSN.out, if_neg hx1]
          simp
        have HSN2 := Lib.hid hsn
        clear hsn hx1
        go_wp2
        go_roundw
        case rel => exact ⟨k + 1, by omega, by go_num, hgw, by rw [HSN2.out]; exact hown3⟩
        case measure => simp [intOf]; omega
    · obtain rfl : k = 16 := by omega
      obtain ⟨va, vc, rfl⟩ := hown.form
      clear h1
      go_wp2
      go_ret
      exact ⟨_, rfl, hown.mono (by omega), grown_trans HG0.out hgr⟩
end
end Go.Proofs.Ytkkkgikmeiocaaa
namespace Go.Proofs.Ytkkkgikmeiocaaa
open Go.RowKit
set_option maxHeartbeats 2000000 in
set_option maxRecDepth 100000 in
theorem formed13_any {w : World} {la2 : Option Addr} {n n2 c2 : Nat} {X2 V2 : Nat → Nat} (hn : n < 18446744073709551616) (hp2 : PutsAt w la2 n2 X2 V2) (hn2 : n2 ≤ maxLen) :
    Calls Try.prog 21 #[.int .u64 n, .slice la2 n2 c2] w (Formed w (fmt48 n) (thinkL (fmt48 n) X2 V2 (min n2 60))) := by
  have hfm := fun (w : World) (B D : Nat) (hs : IsSeg w B D (List.replicate 600 0)) => format_any hs n hn
  have hrf := fun w => rformat48 n hn w
  have hten := fmt48_len n
  unfold fmt48 at hten hrf ⊢
  obtain ⟨ws, hws⟩ : ∃ ws, fmt (List.replicate 600 0) n = ws := ⟨_, rfl⟩
  obtain ⟨fc, hfc⟩ : ∃ fc, fmtE (List.replicate 600 0) n = fc := ⟨_, rfl⟩
  rw [hws] at hfm hten hrf ⊢
  rw [hfc] at hfm
  unfold maxLen at hn2
  have hg0 : w.grownBy (w.alloc (.cells #[.slice none 0 0, .slice none 0 0] 28)) none := World.grownBy_alloc _ _ _
  have hres0 : (w.alloc (.cells #[.slice none 0 0, .slice none 0 0] 28)).heap[w.heap.size]? = some (.cells #[.slice none 0 0, .slice none 0 0] 28 (0, 0)) := heap_alloc_new' _ _
  clear hws hfc
  go_enter Try.func21, Try.ntmps21
  go_wp2_with (first | (go_at_call 37; ((with_reducible refine (new48 _).mono ?_); rintro e w1 ⟨rfl, hg1, hs1⟩; simp only [World.size_alloc] at hs1)) | (go_at_call 38; ((with_reducible refine (hfm _ _ _ hs1).mono ?_); rintro e w2 ⟨rfl, hg2, hs2⟩)) | (go_at_call 39; ((with_reducible refine (hrf _).mono ?_); rintro e w3 ⟨wv, kk, rfl, hg3, ho3⟩; have hs3 := hs2.later hg3; obtain ⟨wa, wn, wc, hwv⟩ := wv_form ho3; subst hwv)) | (go_at_call 40; ((with_reducible refine (txnew_yes hs3).mono ?_); rintro e w4 ⟨rfl, hg4, ht4⟩)))
  have hsz1 : w.heap.size + 1 ≤ w1.heap.size := by have := hg1.size; rwa [World.size_alloc] at this
  have hsz2 : w1.heap.size ≤ w2.heap.size := hg2.size
  have hsz3 : w2.heap.size ≤ w3.heap.size := hg3.size
  have hsz4 : w3.heap.size ≤ w4.heap.size := hg4.size
  have hbxn : w.heap.size ≤ w4.heap.size := by omega
  have hbxne : w4.heap.size ≠ w.heap.size := by omega
  have hg5 : w4.grownBy (w4.alloc (.cells #[.slice wa wn wc, .slice none 0 0] 28)) none := World.grownBy_alloc _ _ _
  have R0 : ThRel w (w3.heap.size + 1) w3.heap.size (w.heap.size + 1 + 1) (w.heap.size + 1) w4.heap.size w.heap.size (.slice wa wn wc) ws (thinkL ws X2 V2 0) (w4.alloc (.cells #[.slice wa wn wc, .slice none 0 0] 28)) := by
    have hgD : w1.grownBy w3 (some (w.heap.size + 1)) := grown_trans hg2 (grown_any hg3 _)
    have hsince : w.grownBy w3 none := by
      refine grown_step (grown_trans hg0 hg1) hgD (fun i hi => .inl ?_)
      injection hi with hi
      omega
    refine ⟨⟨none, ⟨ht4.later hg5, grown_trans (grown_trans hsince hg4) hg5, by omega, by omega, (fun g hg => by cases hg), by omega, by omega⟩, fun g _ hg => by cases hg⟩, ⟨_, heap_alloc_new' _ _, ⟨(((ho3.mono (by omega)).later hg4).later hg5), World.ownsRow_nil _ _ _ _⟩⟩, ?_⟩
    have h1 := (hg1.block _ (lt_of_block hres0) (by simp)).trans hres0
    have h2 := (hgD.block _ (lt_of_block h1) (by intro e; injection e with e; omega)).trans h1
    have h3 := (hg4.block _ (lt_of_block h2) (by simp)).trans h2
    exact (hg5.block _ (lt_of_block h3) (by simp)).trans h3
  clear hs1 hs2 hs3 ho3 ht4 hg1 hg2 hg3 hg4 hg5 hfm hrf hsz1 hsz2 hsz3 hsz4
  generalize w4.heap.size = bx at *
  generalize w3.heap.size + 1 = T at *
  generalize w3.heap.size = M at *
  go_loopw [11] (fun i wr => ∃ k : Nat, k ≤ min n2 60 ∧ i = .int .i64 k ∧ ThRel w T M (w.heap.size + 1 + 1) (w.heap.size + 1) bx w.heap.size (.slice wa wn wc) ws (thinkL ws X2 V2 k) wr) (fun i _ => 60 - (intOf i).toNat)
  case atStart => exact ⟨0, Nat.zero_le _, rfl, R0⟩
  case round =>
    obtain ⟨k, hk, rfl, R⟩ := hrel
    clear R0
    by_cases hlt : k < min n2 60
    · have hn0 : k < n2 := by omega
      have h40 : k < 60 := by omega
      have hgr : w.grownBy wr none := by obtain ⟨_, h1, _⟩ := R.tx; exact h1.since
      obtain ⟨b, off, rfl, hb, hcs⟩ := (hp2.later hgr).cells (by omega)
      obtain ⟨c1, c2⟩ := hcs k hn0
      clear hcs
      have hx := (hp2.lt k).1
      have hv := (hp2.lt k).2
      have hq1 : wr.grownBy wr.drew none := grown_drew (grown_refl _ _)
      have hst := (R.later hq1).store (X2 k) (V2 k) hx hv
      go_wp2
      go_still_tail 11, (by kernel_rfl)
      go_wp2_with (go_at_call 36; refine hst.mono ?_; rintro e v2 ⟨rfl, Q⟩)
      have hgr2 : w.grownBy v2 none := by obtain ⟨_, h1, _⟩ := Q.tx; exact h1.since
      have hq2 : v2.grownBy v2.drew none := grown_drew (grown_refl _ _)
      obtain ⟨pv, hbox, hrt⟩ := Q.box
      obtain ⟨pa, pn, pc, hpv⟩ := pv_form hrt.puts
      subst hpv
      obtain ⟨b', off', hbo, hb', hcs⟩ := (hp2.later hgr2).cells (by omega)
      injection hbo with hbo
      injection hbo with hbo1 hbo2
      subst hbo1
      subst hbo2
      clear c1 c2
      obtain ⟨c1, c2⟩ := hcs k hn0
      clear hcs
      have d0 : v2.cell? ⟨bx, 0, none⟩ = some (.slice wa wn wc) := by simp [World.cell?, hbox]
      have d1 : v2.cell? ⟨bx, 1, none⟩ = some (.slice pa pn pc) := by simp [World.cell?, hbox]
      have hlen : (thinkL ws X2 V2 k).length ≤ 1000000 := by
        have := (thinkL_ok (ws := ws) (X := X2) (fun i => (hp2.lt i).2) k).len
        omega
      have hrs := rtxstore_any (hrt.later hq2) (grown_trans hgr2 hq2).size (by omega) hlen (X2 k) (V2 k) hx
      have HQ := Lib.hid Q
      have HB := Lib.hid hbox
      clear hbox Q hst hrt
      go_still_tail 11, (by kernel_rfl)
      go_wp2_with (go_at_call 41; refine hrs.mono ?_; rintro e v4 ⟨pv', rfl, hr4, hg4⟩; obtain ⟨pa', pn', pc', hpv'⟩ := pv_form hr4.puts; subst hpv'; have hb4 := (hg4.block _ (lt_of_block HB.out) (by simp)).trans HB.out; have e0 : v4.cell? ⟨bx, 0, none⟩ = some (.slice wa wn wc) := (by simp [World.cell?, hb4]); have e1 : v4.cell? ⟨bx, 1, none⟩ = some (.slice pa pn pc) := (by simp [World.cell?, hb4]); have f0 : v4.frozen? ⟨bx, 0, none⟩ = false := (by simp [World.frozen?, hb4]); have f1 : v4.frozen? ⟨bx, 1, none⟩ = false := (by simp [World.frozen?, hb4]); clear hb4)
      go_roundw
      case rel => exact ⟨k + 1, by omega, by go_num, HQ.out.stored (grown_trans hq2 hg4) hr4 hbxn hbxne⟩
      case measure => simp [intOf]; omega
    · obtain ⟨N, hN⟩ : ∃ N, min n2 60 = N := ⟨_, rfl⟩
      rw [hN] at hk hlt ⊢
      obtain rfl : k = N := by omega
      have HN := Lib.hid hN
      obtain ⟨Rr, hT, hap⟩ := R.tx
      obtain ⟨pv, hbox, hrt⟩ := R.box
      obtain ⟨pa, pn, pc, hpv⟩ := pv_form hrt.puts
      subst hpv
      have hres := R.res
      have d0 : wr.cell? ⟨bx, 0, none⟩ = some (.slice wa wn wc) := by simp [World.cell?, hbox]
      have d1 : wr.cell? ⟨bx, 1, none⟩ = some (.slice pa pn pc) := by simp [World.cell?, hbox]
      have e0 : wr.cell? ⟨w.heap.size, 0, none⟩ = some (.slice none 0 0) := by simp [World.cell?, hres]
      have e1 : wr.cell? ⟨w.heap.size, 1, none⟩ = some (.slice none 0 0) := by simp [World.cell?, hres]
      have f0 : wr.frozen? ⟨w.heap.size, 0, none⟩ = false := by simp [World.frozen?, hres]
      have f1 : wr.frozen? ⟨w.heap.size, 1, none⟩ = false := by simp [World.frozen?, hres]
      have HR := Lib.hid hres
      clear hres hbox hN R
      have hend : Formed w ws (thinkL ws X2 V2 k) (.returned (.tuple #[.pointer (some ⟨T, 0, none⟩), .agg #[.slice wa wn wc, .slice pa pn pc]])) ((wr.setCell ⟨w.heap.size, 0, none⟩ (.slice wa wn wc)).setCell ⟨w.heap.size, 1, none⟩ (.slice pa pn pc)).drew := by
        have hs : wr.grownBy ((wr.setCell ⟨w.heap.size, 0, none⟩ (.slice wa wn wc)).setCell ⟨w.heap.size, 1, none⟩ (.slice pa pn pc)).drew (some w.heap.size) := grown_drew (grown_trans (grown_set _ _ _ _) (grown_set _ _ _ _))
        exact ⟨_, _, _, _, _, _, _, rfl, hT.other HR.out (Nat.le_refl _) hs, hrt.other HR.out hs, hap⟩
      have HE := Lib.hid hend
      clear hend
      by_cases hkn : k < n2
      · have h40 : ¬ k < 60 := by have := HN.out; omega
        go_wp2
        go_region
        all_goals go_wp2
        refine bodyPost_ret (v := .tuple #[.pointer (some ⟨T, 0, none⟩), .agg #[.slice wa wn wc, .slice pa pn pc]]) (by simp [results, Try.results21, go_sem, e0, e1]) rfl (by rw [HN.out]; exact HE.out)
      · go_wp2
        go_region
        all_goals go_wp2
        refine bodyPost_ret (v := .tuple #[.pointer (some ⟨T, 0, none⟩), .agg #[.slice wa wn wc, .slice pa pn pc]]) (by simp [results, Try.results21, go_sem, e0, e1]) rfl (by rw [HN.out]; exact HE.out)
theorem formed13_nil (n : Nat) (hn : n < 18446744073709551616) (w : World) : Calls Try.prog 21 #[.int .u64 n, .slice none 0 0] w (Formed w (fmt48 n) []) := formed13_any (c2 := 0) hn (puts_none w) (by decide)
end Go.Proofs.Ytkkkgikmeiocaaa
namespace Go.Proofs.Ytkkkgikmeiocaaa
open Go.RowKit
set_option maxRecDepth 100000
theorem cellsN_len (l : List (ByteArray × Nat)) : (cellsN l).length = l.length * 2 := by
  induction l with
  | nil => rfl
  | cons p r ih =>
    have e : cellsN (p :: r) = .string p.1 :: .int .u64 (p.2 : Nat) :: cellsN r := rfl
    rw [e, List.length_cons, List.length_cons, ih, List.length_cons]
    omega
theorem OwnN.addr {w : World} {base : Nat} {t : TypeId} {v : Value} {l : List (ByteArray × Nat)} (h : OwnN w base t v l) : ∃ a c g, v = .slice a l.length c ∧ (0 < l.length → a = some ⟨g, 0, none⟩) ∧
    ∀ w', OwnN w' base t v l → ∀ k, k < l.length → w'.cell? ⟨g, k * 2, none⟩ = some (.string (entS l k)) ∧ w'.cell? ⟨g, k * 2 + 1, none⟩ = some (.int .u64 (entO l k : Nat)) := by
  rcases h.2 with ⟨h1, h2⟩ | ⟨g, cap, cur, hv, _⟩
  · exact ⟨none, 0, 0, by rw [h1, h2], fun h => by omega, fun w' _ j hj => by omega⟩
  · refine ⟨_, cap, g, hv, fun _ => rfl, fun w' h' k hk => ?_⟩
    rw [hv] at h'
    have hl := cellsN_len l
    have c0 := World.ownsRow.cellAt h' (k * 2) (by omega)
    have c1 := World.ownsRow.cellAt h' (k * 2 + 1) (by omega)
    obtain ⟨e0, e1⟩ := cellsN_at l k hk
    exact ⟨c0.trans e0, c1.trans e1⟩
set_option maxHeartbeats 2000000 in
theorem entries13_same {w : World} {base base' : Nat} {p q : Value} {l : List (ByteArray × Nat)} (hp : OwnN w base 56 p l) (hq : OwnN w base' 74 q l) (hl : l.length ≤ 1000000) :
    Calls Try.prog 14 #[p, q] w fun e w' => e = .returned (.bool true) ∧ w.grownBy w' none := by
  obtain ⟨pa, pc, pg, hpv, hpa, hpc⟩ := hp.addr
  obtain ⟨qa, qc, qg, hqv, hqa, hqc⟩ := hq.addr
  have hpc' := fun w' (hg : w.grownBy w' none) => hpc w' (hp.later hg)
  have hqc' := fun w' (hg : w.grownBy w' none) => hqc w' (hq.later hg)
  clear hpc hqc hp hq
  subst hpv
  subst hqv
  obtain ⟨n, hn⟩ : ∃ n, l.length = n := ⟨_, rfl⟩
  rw [hn] at hpa hqa hpc' hqc' hl ⊢
  have HPA := Lib.hid hpa
  have HQA := Lib.hid hqa
  have HPC := Lib.hid hpc'
  have HQC := Lib.hid hqc'
  have e0 : ((n : Int) != (n : Int)) = false := by simp
  clear hpa hqa hpc' hqc' hn
  go_enter Try.func14, Try.ntmps14
  go_wp2
  go_loopw [5] (fun i wr => ∃ k : Nat, k ≤ n ∧ i = .int .i64 k ∧ w.grownBy wr none) (fun i _ => n - (intOf i).toNat)
  case atStart => exact ⟨0, Nat.zero_le _, rfl, grown_refl _ _⟩
  case round =>
    obtain ⟨k, hk, rfl, hgr⟩ := hrel
    by_cases h1 : k < n
    · have hki : (k : Int) < (n : Int) := by omega
      have hgd := grown_drew hgr
      obtain ⟨p0, p1⟩ := HPC.out _ hgd k h1
      obtain ⟨q0, q1⟩ := HQC.out _ hgd k h1
      obtain rfl := HPA.out (by omega)
      obtain rfl := HQA.out (by omega)
      obtain ⟨s, es⟩ : ∃ s, entS l k = s := ⟨_, rfl⟩
      obtain ⟨o, eo⟩ : ∃ o, entO l k = o := ⟨_, rfl⟩
      rw [es] at p0 q0
      rw [eo] at p1 q1
      have hoo : ((o : Int) != (o : Int)) = false := by simp
      have hk1 : IntKind.i64.wrap ((k : Int) + 1) = ((k + 1 : Nat) : Int) := by rw [IntKind.wrap_i64]; omega
      have hms : n - (k + 1) < n - k := by omega
      clear es eo h1
      go_wp2
      go_region_held3 (fun V => V.cell? ⟨pg, k * 2, none⟩ = some (.string s) ∧ V.cell? ⟨pg, k * 2 + 1, none⟩ = some (.int .u64 (o : Nat)) ∧ V.cell? ⟨qg, k * 2, none⟩ = some (.string s) ∧ V.cell? ⟨qg, k * 2 + 1, none⟩ = some (.int .u64 (o : Nat))) (exact ⟨p0, p1, q0, q1⟩) (fail)
      go_wp2
      go_roundw
      case rel => exact ⟨k + 1, by omega, by go_num, hgd⟩
      case measure => simp [intOf]; omega
    · obtain rfl : k = n := by omega
      have hkk : ¬ (k : Int) < (k : Int) := by omega
      clear h1
      go_wp2
      go_ret
      exact ⟨rfl, hgr⟩
end Go.Proofs.Ytkkkgikmeiocaaa
