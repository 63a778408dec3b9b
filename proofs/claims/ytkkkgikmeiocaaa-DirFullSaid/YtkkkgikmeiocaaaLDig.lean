/-
  Texts of one layer, one behind the other: memory, contracts of the functions, and what follows of them.
  Conditions: as each theorem says.
-/
import Derived.Test.YtkkkgikmeiocaaaDirJ
import Derived.Test.YtkkkgikmeiocaaaLDie
set_option linter.unusedVariables false
set_option linter.unusedSimpArgs false
namespace Go.Proofs.Ytkkkgikmeiocaaa
open Go.RowKit Go.Shelf
set_option maxRecDepth 100000
attribute [local go_sem] Oper.semAt_some
theorem plF_is {f : Nat → Nat} {h k : Nat} (hk : k < 16) (h1 : f (dAt ((h + k) % 16) + 16) < 2) (h2 : ∀ q, q < k → 2 ≤ f (dAt ((h + q) % 16) + 16)) : plF f h 16 0 = some ((h + k) % 16) := by
  cases e : plF f h 16 0 with
  | none => exact absurd (plF_none e k (Nat.zero_le _) (by omega)) (by omega)
  | some j =>
    obtain ⟨m, m1, m2, rfl, m4, m5⟩ := plF_some e
    rcases Nat.lt_trichotomy m k with h | rfl | h
    · exact absurd (h2 m h) (by omega)
    · rfl
    · exact absurd (m5 k (Nat.zero_le _) h) (by omega)
theorem plF_not {f : Nat → Nat} {h : Nat} (h2 : ∀ q, q < 16 → 2 ≤ f (dAt ((h + q) % 16) + 16)) : plF f h 16 0 = none := by
  cases e : plF f h 16 0 with
  | none => rfl
  | some j =>
    obtain ⟨m, m1, m2, rfl, m4, m5⟩ := plF_some e
    exact absurd (h2 m (by omega)) (by omega)
structure RmI (w : World) (f : Nat → Nat) (h bw : Nat) (pre : List Nat) (W : World) : Prop where
  no : ∀ k ∈ pre, 2 ≤ f (dAt ((h + k) % 16) + 16)
  r1 : W.heap[w.heap.size]? = some (.cells #[.int .u64 0, .int .u64 0, .int .u64 0, .int .u64 0] 65 (0, 0))
  r2 : Boxed W (w.heap.size + 1) 35 (.int .i64 0)
  below : Below w.heap.size w W
  big : bw ≤ W.heap.size
structure RmX (w : World) (f : Nat → Nat) (h : Nat) (c : Code) (pre : List Nat) (W : World) : Prop where
  jump : c = .ret
  res : ∃ k, pre.getLast? = some k ∧ f (dAt ((h + k) % 16) + 16) < 2 ∧ (∀ q ∈ pre.dropLast, 2 ≤ f (dAt ((h + q) % 16) + 16)) ∧ W.heap[w.heap.size]? = some (.cells (slC f ((h + k) % 16)) 65 (0, 0))
  r2 : Boxed W (w.heap.size + 1) 35 (.int .i64 0)
  below : Below w.heap.size w W
theorem RmI.own (w : World) (n : Nat) (f : Nat → Nat) (h bw : Nat) (hn : w.heap.size ≤ n) : OwnFrom n (RmI w f h bw) := fun pre X Y row hs hg hr =>
  ⟨hs.no, cells_past13 hg hr hs.r1, cells_past13 hg hr hs.r2, hs.below.grown hg hs.below.size (fun k e => Nat.le_trans hn (hr k e).1), Nat.le_trans hs.big hg.size⟩
theorem RmX.own (w : World) (n : Nat) (f : Nat → Nat) (h : Nat) (c : Code) (hn : w.heap.size ≤ n) : OwnFrom n (RmX w f h c) := fun pre X Y row hs hg hr =>
  ⟨hs.jump, by obtain ⟨k, h2, h3, h4, h5⟩ := hs.res; exact ⟨k, h2, h3, h4, cells_past13 hg hr h5⟩, cells_past13 hg hr hs.r2, hs.below.grown hg hs.below.size (fun k e => Nat.le_trans hn (hr k e).1)⟩
theorem RmI.later {w W W' : World} {f : Nat → Nat} {h bw : Nat} {pre : List Nat} (hs : RmI w f h bw pre W) (hg : W.grownBy W' none) : RmI w f h bw pre W' :=
  ⟨hs.no, (hg.block _ (lt_of_block hs.r1) (by simp)).trans hs.r1, hs.r2.kept hg (by simp), hs.below.grown hg hs.below.size (fun k e => by cases e), Nat.le_trans hs.big hg.size⟩
def rmV (f : Nat → Nat) (s : ByteArray) : Value := if roomN f s = 0 then .tuple #[slV f ((plN f s).getD 0), .int .i64 0] else .tuple #[.agg #[.int .u64 0, .int .u64 0, .int .u64 0, .int .u64 0], .int .i64 (roomN f s : Nat)]
set_option maxHeartbeats 4000000 in
theorem croom_in {w : World} {p : Option Addr} {f : Nat → Nat} {s : ByteArray} (hld : TLd w p f) (hs : s.size ≤ maxLen) :
    CallsIn Fence.wide 6 Try.prog 28 #[.pointer p, .string s] w fun e w' => e = .returned (rmV f s) ∧ w.grownBy w' none := by
  have hpk : ∀ V : World, CallsIn Fence.wide 5 Try.prog 35 #[.string s] V _ := fun V => (callsIn_wide (n := 5)).2 (pack13 s hs V)
  have hwy : ∀ V : World, CallsIn Fence.wide 5 Try.prog 42 #[.pointer p, .string s] V _ := fun V => (callsIn_wide (n := 5)).2 (cway_any p s hs V)
  have hsd := fun (V : World) (hg : w.grownBy V none) => (callsIn_wide (n := 5)).2 (cstanding_any (hld.later hg) hs)
  have hlt := (hN_is s).2
  obtain ⟨lo, elo⟩ : ∃ x, loD s = x := ⟨_, rfl⟩
  obtain ⟨hi, ehi⟩ : ∃ x, hiD s = x := ⟨_, rfl⟩
  rw [elo, ehi] at hpk
  clear elo ehi
  unfold rmV
  by_cases hok : nmOk s
  · simp only [decide_eq_true hok] at hpk
    by_cases hth : stN f s ≠ none
    · have hrm : roomN f s = 7 := by unfold roomN; rw [if_neg (not_not_intro hok), if_pos hth]
      rw [hrm, if_neg (by decide)]
      obtain ⟨i, ei⟩ := Option.ne_none_iff_exists'.1 hth
      rw [ei] at hsd
      unfold stdV slV at hsd
      obtain ⟨x0, e0⟩ : ∃ q, dAt i = q := ⟨_, rfl⟩
      obtain ⟨x1, e1⟩ : ∃ q, f x0 = q := ⟨_, rfl⟩
      obtain ⟨x2, e2⟩ : ∃ q, f (x0 + 8) = q := ⟨_, rfl⟩
      obtain ⟨x3, e3⟩ : ∃ q, f (x0 + 16) = q := ⟨_, rfl⟩
      simp only [e0, e1, e2, e3] at hsd
      have HSD := Lib.hid hsd
      clear hsd hok hth hrm ei e0 e1 e2 e3 hlt hwy hld
      have hgr : w.grownBy ((w.alloc (.cells #[.int .u64 0, .int .u64 0, .int .u64 0, .int .u64 0] 65)).alloc (.cells #[.int .i64 0] 35)) none := grown_trans (World.grownBy_alloc _ _ _) (World.grownBy_alloc _ _ _)
      have r1 : ((w.alloc (.cells #[.int .u64 0, .int .u64 0, .int .u64 0, .int .u64 0] 65)).alloc (.cells #[.int .i64 0] 35)).heap[w.heap.size]? = some (.cells #[.int .u64 0, .int .u64 0, .int .u64 0, .int .u64 0] 65 (0, 0)) := four_first (World.grownBy_alloc _ _ _)
      have r2 : Boxed ((w.alloc (.cells #[.int .u64 0, .int .u64 0, .int .u64 0, .int .u64 0] 65)).alloc (.cells #[.int .i64 0] 35)) (w.heap.size + 1) 35 (.int .i64 0) := by
        have := Boxed.new (w.alloc (.cells #[.int .u64 0, .int .u64 0, .int .u64 0, .int .u64 0] 65)) 35 (.int .i64 0)
        rwa [World.size_alloc] at this
      have R1 := Lib.hid r1
      have R2 := Lib.hid r2
      clear r1 r2
      refine callsIn_of_wp_marks Try.func28 rfl trivial ?_ rfl
      simp only [Try.ntmps28, List.size_toArray, List.length_cons, List.length_nil, Nat.reduceAdd, Nat.reduceSub, Array.replicate_succ, Array.replicate_zero, List.push_toArray, List.append_toArray, List.nil_append, List.cons_append]
      gi_wp2_with (first | (refine ⟨trivial, ?_⟩; gi_at_call 35; (with_reducible refine (hpk _).mono ?_); rintro e w1 ⟨rfl, hg1⟩; have g1 : w1.grownBy (w1.alloc (.cells #[.int .u64 lo, .int .u64 hi] 63)) none := World.grownBy_alloc _ _ _; have G1 := grown_trans hg1 g1; have s1 := (G1.block _ (lt_of_block R1.out) (by simp)).trans R1.out; have s2 := R2.out.kept G1 (by simp); obtain ⟨d0, d1, d2, d3⟩ := four_cells s1; obtain ⟨z0, z1, z2, z3⟩ := four_frozen s1; have c4 := s2.cell; have z4 := s2.frozen) | (refine ⟨trivial, ?_⟩; gi_at_call 24; (with_reducible refine (HSD.out _ (grown_trans hgr G1)).mono ?_); rintro e w2 ⟨rfl, hg2⟩; have g2 : w2.grownBy (w2.alloc (.cells #[.int .u64 x0, .int .u64 x1, .int .u64 x2, .int .u64 x3] 65)) none := World.grownBy_alloc _ _ _; have G2 := grown_trans G1 (grown_trans hg2 g2); have t1 := (G2.block _ (lt_of_block R1.out) (by simp)).trans R1.out; have t2 := R2.out.kept G2 (by simp); obtain ⟨d0, d1, d2, d3⟩ := four_cells t1; obtain ⟨z0, z1, z2, z3⟩ := four_frozen t1; have c4 := t2.cell; have z4 := t2.frozen))
      obtain ⟨q1, q2, q3, q4⟩ := std_put (x' := .int .u64 0) (y' := .int .u64 0) (z' := .int .u64 0) (q' := .int .u64 0) (v := .int .i64 7) t1 t2 (grown_below (grown_trans hgr G2))
      obtain ⟨p0, p1, p2, p3⟩ := four_cells q1
      have p4 := q2.cell
      refine ⟨.tuple #[.agg #[.int .u64 0, .int .u64 0, .int .u64 0, .int .u64 0], .int .i64 7], by simp [results, Try.results28, go_sem, p0, p1, p2, p3, p4], rfl, below_grown q3⟩
    · have hno : stN f s = none := by
        cases e : stN f s with
        | none => rfl
        | some i => exact absurd (by rw [e]; simp) hth
      rw [hno] at hsd
      unfold stdV at hsd
      have HSD := Lib.hid hsd
      have hrm : roomN f s = if plN f s = none then 9 else 0 := by unfold roomN; rw [if_neg (not_not_intro hok), if_neg hth]
      rw [hrm]
      have hst := fun (W0 : World) (tb : Nat) => cround_stops (w0 := W0) (tb := tb) (f := f) (w := w) (p := p) (n := hN s) hld hlt
      unfold plN hD
      obtain ⟨n, en⟩ : ∃ x, hN s = x := ⟨_, rfl⟩
      rw [en] at hwy hlt ⊢
      simp only [en] at hst
      obtain ⟨h, eh⟩ : ∃ x, n % 16 = x := ⟨_, rfl⟩
      simp only [eh] at hst
      rw [eh]
      obtain ⟨r0, er⟩ : ∃ r, plF f h 16 0 = r := ⟨_, rfl⟩
      rw [er]
      have ER := Lib.hid er
      obtain ⟨rv, erv⟩ : ∃ v, (if (if r0 = none then 9 else 0) = 0 then Value.tuple #[slV f (r0.getD 0), .int .i64 0] else Value.tuple #[.agg #[.int .u64 0, .int .u64 0, .int .u64 0, .int .u64 0], .int .i64 ((if r0 = none then 9 else 0 : Nat) : Nat)]) = v := ⟨_, rfl⟩
      rw [erv]
      have HV := Lib.hid erv
      clear erv
      have HST := Lib.hid hst
      clear er en eh hld hst hsd hno hth hrm hok
      have hgr : w.grownBy ((w.alloc (.cells #[.int .u64 0, .int .u64 0, .int .u64 0, .int .u64 0] 65)).alloc (.cells #[.int .i64 0] 35)) none := grown_trans (World.grownBy_alloc _ _ _) (World.grownBy_alloc _ _ _)
      have r1 : ((w.alloc (.cells #[.int .u64 0, .int .u64 0, .int .u64 0, .int .u64 0] 65)).alloc (.cells #[.int .i64 0] 35)).heap[w.heap.size]? = some (.cells #[.int .u64 0, .int .u64 0, .int .u64 0, .int .u64 0] 65 (0, 0)) := four_first (World.grownBy_alloc _ _ _)
      have r2 : Boxed ((w.alloc (.cells #[.int .u64 0, .int .u64 0, .int .u64 0, .int .u64 0] 65)).alloc (.cells #[.int .i64 0] 35)) (w.heap.size + 1) 35 (.int .i64 0) := by
        have := Boxed.new (w.alloc (.cells #[.int .u64 0, .int .u64 0, .int .u64 0, .int .u64 0] 65)) 35 (.int .i64 0)
        rwa [World.size_alloc] at this
      have hsA : ((w.alloc (.cells #[.int .u64 0, .int .u64 0, .int .u64 0, .int .u64 0] 65)).alloc (.cells #[.int .i64 0] 35)).heap.size = w.heap.size + 1 + 1 := by simp
      have R1 := Lib.hid r1
      have R2 := Lib.hid r2
      clear r1 r2
      refine callsIn_of_wp_marks Try.func28 rfl trivial ?_ rfl
      simp only [Try.ntmps28, List.size_toArray, List.length_cons, List.length_nil, Nat.reduceAdd, Nat.reduceSub, Array.replicate_succ, Array.replicate_zero, List.push_toArray, List.append_toArray, List.nil_append, List.cons_append]
      gi_wp2_with (first | (refine ⟨trivial, ?_⟩; gi_at_call 35; (with_reducible refine (hpk _).mono ?_); rintro e w1 ⟨rfl, hg1⟩; have g1 : w1.grownBy (w1.alloc (.cells #[.int .u64 lo, .int .u64 hi] 63)) none := World.grownBy_alloc _ _ _; have G1 := grown_trans hg1 g1; have s1 := (G1.block _ (lt_of_block R1.out) (by simp)).trans R1.out; have s2 := R2.out.kept G1 (by simp); obtain ⟨d0, d1, d2, d3⟩ := four_cells s1; obtain ⟨z0, z1, z2, z3⟩ := four_frozen s1; have c4 := s2.cell; have z4 := s2.frozen) | (refine ⟨trivial, ?_⟩; gi_at_call 24; (with_reducible refine (HSD.out _ (grown_trans hgr G1)).mono ?_); rintro e w2 ⟨rfl, hg2⟩; have g2 : w2.grownBy (w2.alloc (.cells #[.int .u64 0, .int .u64 0, .int .u64 0, .int .u64 0] 65)) none := World.grownBy_alloc _ _ _; have G2 := grown_trans G1 (grown_trans hg2 g2); have t1 := (G2.block _ (lt_of_block R1.out) (by simp)).trans R1.out; have t2 := R2.out.kept G2 (by simp); obtain ⟨d0, d1, d2, d3⟩ := four_cells t1; obtain ⟨z0, z1, z2, z3⟩ := four_frozen t1; have c4 := t2.cell; have z4 := t2.frozen) | (refine ⟨trivial, ?_⟩; gi_at_call 42; (with_reducible refine (hwy _).mono ?_); rintro e w3 ⟨rfl, rfl⟩))
      have hs1 := hg1.size
      rw [hsA] at hs1
      obtain ⟨bw, ebw⟩ : ∃ bw, w1.heap.size = bw := ⟨_, rfl⟩
      obtain ⟨bq, ebq⟩ : ∃ bq, w2.heap.size = bq := ⟨_, rfl⟩
      have hs2 := Nat.le_trans (Nat.le_trans hs1 g1.size) hg2.size
      have hz0 : (w2.alloc (.cells #[.int .u64 0, .int .u64 0, .int .u64 0, .int .u64 0] 65)).heap.size = bq + 1 := by rw [World.size_alloc, ebq]
      rw [ebq] at hs2
      obtain ⟨A1, hA1⟩ : ∃ W, w2.alloc (.cells #[.int .u64 0, .int .u64 0, .int .u64 0, .int .u64 0] 65) = W := ⟨_, rfl⟩
      rw [hA1] at hz0 t1 t2 G2 ⊢
      obtain ⟨A2, hA2⟩ : ∃ W, A1.alloc (.cells #[.pointer p] 25) = W := ⟨_, rfl⟩
      have b3 : Boxed A2 (bq + 1) 25 (.pointer p) := by rw [← hA2, ← hz0]; exact Boxed.new _ _ _
      have hz1 : A2.heap.size = bq + 1 + 1 := by rw [← hA2, World.size_alloc, hz0]
      have g3 : A1.grownBy A2 none := by rw [← hA2]; exact World.grownBy_alloc _ _ _
      rw [hA2]
      obtain ⟨W0, hW0⟩ : ∃ W, A2.alloc (.cells #[.int .u64 n] 31) = W := ⟨_, rfl⟩
      have b4 : Boxed W0 (bq + 1 + 1) 31 (.int .u64 n) := by rw [← hW0, ← hz1]; exact Boxed.new _ _ _
      have hz2 : W0.heap.size = bq + 3 := by rw [← hW0, World.size_alloc, hz1]
      have g4 : A2.grownBy W0 none := by rw [← hW0]; exact World.grownBy_alloc _ _ _
      rw [hW0]
      have g34 := grown_trans g3 g4
      have gA := grown_trans hgr (grown_trans G2 g34)
      have k1 := (g34.block _ (lt_of_block t1) (by simp)).trans t1
      have k2 := t2.kept g34 (by simp)
      have k4 := b3.kept g4 (by simp)
      have hseq := HST.out W0 (bq + 1) (grown_below gA) k4 b4
      rw [ebw, ebq]
      clear hW0 hA1 hA2 HST HSD hpk hwy b3 b4 k4 R1 R2 s1 s2 t1 t2 G1 G2 hg1 hg2 g1 g2 g3 g4 g34 hgr hz0 hz1 hsA ebw ebq hs1 d0 d1 d2 d3 z0 z1 z2 z3 c4 z4
      refine wpIn_rangeFunc_ownH rfl (by decide) (gf := 46) (lb := #[.pointer (some ⟨bq + 1, 0, none⟩), .pointer (some ⟨bq + 1 + 1, 0, none⟩)]) rfl trivial (enters_of Try.func46 (by kernel_rfl) rfl) hseq (fun h k => RdK.trans h k) (fun W l o o' hl h hc hw => RdK.put (w0 := W0) gA.size (by omega) W l o o' hl h hc hw) (Below.refl _ _) (fun _ => rfl)
        (RmI w f h (bq + 3)) (RmX w f h) (RmI.own w _ f h _ gA.size) (fun c => RmX.own w _ f h c gA.size)
        ⟨fun j hj => absurd hj (by simp), k1, k2, grown_below gA, by omega⟩
        (fun x a' W => ∃ B, bq + 3 ≤ B ∧ W.heap[B]? = some (.cells (slC f ((h + x) % 16)) 65 (0, 0)) ∧ a' = { tmps := #[.pointer p, .string s, undef, undef, .pointer (some ⟨w.heap.size, 0, none⟩), .pointer (some ⟨w.heap.size + 1, 0, none⟩), .pointer (some ⟨bw, 0, none⟩), .bool true, .pointer (some ⟨bq, 0, none⟩), .bool false, .pointer (some ⟨B, 0, none⟩), .tuple #[.agg #[.int .u64 lo, .int .u64 hi], .bool true], .string s, .tuple #[.agg #[.int .u64 lo, .int .u64 hi], .bool true], .agg #[.int .u64 lo, .int .u64 hi], .bool true, .bool true, .bool false, undef, .tuple #[.agg #[.int .u64 0, .int .u64 0, .int .u64 0, .int .u64 0], .bool false], .pointer p, .string s, .tuple #[.agg #[.int .u64 0, .int .u64 0, .int .u64 0, .int .u64 0], .bool false], .agg #[.int .u64 0, .int .u64 0, .int .u64 0, .int .u64 0], .bool false, .bool false, undef, .pointer p, .string s, .func (.func 46) #[] #[.pointer (some ⟨bq + 1, 0, none⟩), .pointer (some ⟨bq + 1 + 1, 0, none⟩)], slV f ((h + x) % 16), undef, undef, undef, undef, undef, undef], defers := [] })
        (fun x a' _ X Y row hs hg hr => by
          obtain ⟨B, q1, q2, q3⟩ := hs
          exact ⟨B, q1, cells_past13 hg hr q2, q3⟩)
        ?assign ?body ?done ?stop
      case assign =>
        rintro yl pre x W K hI hK
        obtain ⟨j, ej⟩ : ∃ j, (h + x) % 16 = j := ⟨_, rfl⟩
        rw [ej] at hK ⊢
        unfold slC at hK
        unfold slV at hK ⊢
        gi_wp2
        exact hK _ _ ((KeepsOthers.alloc _ _).from _) (RdK.grown (row := none) hI.below.size (World.grownBy_alloc _ _ _) (fun r e => by cases e)) (hI.later (World.grownBy_alloc _ _ _)) ⟨W.heap.size, hI.big, heap_alloc_new' _ _, rfl⟩
      case body =>
        rintro yl pre x a' W hl ⟨r, hr⟩ hI ⟨B, hB, hc, rfl⟩ hlt2
        have hll : (pre ++ [x]).getLast? = some x := by simp
        have hdl : (pre ++ [x]).dropLast = pre := by simp
        have hcs := fun (q : Nat) V => (callsIn_wide (n := 3)).2 (cstands_any q V)
        have hsum : ∀ k ∈ pre ++ [x], k ∈ pre ∨ k = x := fun k hk => by
          rcases List.mem_append.1 hk with h | h
          · exact .inl h
          · exact .inr (List.mem_singleton.1 h)
        have hno := hI.no
        obtain ⟨c0, c1, c2, c3⟩ := four_cells hc
        obtain ⟨j, ej⟩ : ∃ j, (h + x) % 16 = j := ⟨_, rfl⟩
        unfold slV
        rw [ej] at hc c0 c1 c2 c3 ⊢
        obtain ⟨d, ed⟩ : ∃ d, dAt j = d := ⟨_, rfl⟩
        rw [ed] at c0 c1 c2 c3 ⊢
        obtain ⟨x0, ex0⟩ : ∃ q, f d = q := ⟨_, rfl⟩
        obtain ⟨x8, ex8⟩ : ∃ q, f (d + 8) = q := ⟨_, rfl⟩
        obtain ⟨x16, ex16⟩ : ∃ q, f (d + 16) = q := ⟨_, rfl⟩
        rw [ex0, ex8, ex16]
        rw [ex0] at c1
        rw [ex8] at c2
        rw [ex16] at c3
        have hfx : f (dAt ((h + x) % 16) + 16) = x16 := by rw [ej, ed, ex16]
        have hcs1 := hcs x16
        by_cases hx1 : 1 < x16
        · have hgo : RmI w f h (bq + 3) (pre ++ [x]) W := ⟨fun k hk => by
            rcases hsum k hk with h | rfl
            · exact hno k h
            · rw [hfx]; exact hx1, hI.r1, hI.r2, hI.below, hI.big⟩
          have HGO := Lib.hid hgo
          rw [decide_eq_true hx1] at hcs1
          clear hI hgo hfx hno hsum hcs hx1 hc
          gi_wp2_with (refine ⟨trivial, ?_⟩; gi_at_call 32; (with_reducible refine (CallsIn.inRound yl (hcs1 _)).mono ?_); rintro e w2 ⟨rfl, rfl⟩)
          exact ⟨(KeepsOthers.refl _).from _, RdK.refl _ _ _ _ _, HGO.out⟩
        · have HI := Lib.hid hI
          have HFX := Lib.hid (show f (dAt ((h + x) % 16) + 16) < 2 by rw [hfx]; omega)
          rw [decide_eq_false hx1] at hcs1
          obtain ⟨d0, d1, d2, d3⟩ := four_cells hI.r1
          obtain ⟨z0, z1, z2, z3⟩ := four_frozen hI.r1
          have c4 := hI.r2.cell
          have z4 := hI.r2.frozen
          clear hI hfx hno hsum hcs hx1 hc
          gi_wp2_with (refine ⟨trivial, ?_⟩; gi_at_call 32; (with_reducible refine (CallsIn.inRound yl (hcs1 _)).mono ?_); rintro e w2 ⟨rfl, rfl⟩)
          obtain ⟨q1, q2, q3, q4⟩ := std_put (x' := .int .u64 (d : Nat)) (y' := .int .u64 (x0 : Nat)) (z' := .int .u64 (x8 : Nat)) (q' := .int .u64 (x16 : Nat)) (v := .int .i64 0) HI.out.r1 HI.out.r2 HI.out.below
          exact ⟨q4.from _, rfl, ⟨x, hll, HFX.out, by rw [hdl]; exact HI.out.no, by rw [ej]; unfold slC; rw [ed, ex0, ex8, ex16]; exact q1⟩, q2, q3⟩
      case done =>
        rintro D2 ys W hD rfl hI hK
        have HR := Lib.hid ((plF_not fun m hm => hI.no m (List.mem_range.2 hm)).symm.trans ER.out)
        obtain ⟨d0, d1, d2, d3⟩ := four_cells hI.r1
        obtain ⟨z0, z1, z2, z3⟩ := four_frozen hI.r1
        have c4 := hI.r2.cell
        have z4 := hI.r2.frozen
        have HI := Lib.hid hI
        clear hI
        gi_wp2
        obtain ⟨q1, q2, q3, q4⟩ := std_put (x' := .int .u64 0) (y' := .int .u64 0) (z' := .int .u64 0) (q' := .int .u64 0) (v := .int .i64 9) HI.out.r1 HI.out.r2 HI.out.below
        have hK2 := q4.same D2 _ hK rfl
        obtain ⟨W2, hW2⟩ : ∃ W2, (((((W.setCell ⟨w.heap.size, 0, none⟩ (.int .u64 0)).setCell ⟨w.heap.size, 1, none⟩ (.int .u64 0)).setCell ⟨w.heap.size, 2, none⟩ (.int .u64 0)).setCell ⟨w.heap.size, 3, none⟩ (.int .u64 0)).setCell ⟨w.heap.size + 1, 0, none⟩ (.int .i64 9)) = W2 := ⟨_, rfl⟩
        rw [hW2] at q1 q2 q3 hK2 ⊢
        have gp := grownBy_putObj' W2 D2 (.deferred none)
        obtain ⟨p0, p1, p2, p3⟩ := four_cells ((gp.block _ (lt_of_block q1) (by simp; omega)).trans q1)
        have p4 := (q2.kept gp (by simp; omega)).cell
        refine ⟨by simp, .inl ⟨_, _, rfl, run_takeDeferred hK2, ?_⟩⟩
        refine ⟨.tuple #[.agg #[.int .u64 0, .int .u64 0, .int .u64 0, .int .u64 0], .int .i64 9], by simp [results, Try.results28, go_sem, p0, p1, p2, p3, p4], by rw [← HV.out, ← HR.out]; rfl, below_grown (q3.trans (belowK_b (w := w) (Nat.le_refl _) W2 D2 _ _ (by omega) hK2 rfl rfl))⟩
      case stop =>
        rintro D2 c pre W hD ⟨k, hk, rfl⟩ hX hK
        have hB := hX.below
        obtain rfl := hX.jump
        obtain ⟨k', h2, h3, h4, h5⟩ := hX.res
        have h6 := hX.r2
        obtain rfl : k' = k := by rw [List.range_succ] at h2; simpa using h2.symm
        have HR := Lib.hid ((plF_is (by omega) h3 fun q hq => h4 q (by rw [List.range_succ]; simpa using hq)).symm.trans ER.out)
        have H5 := Lib.hid h5
        have H6 := Lib.hid h6
        clear hX h2 h3 h4 h5 h6
        gi_wp2
        have gp := grownBy_putObj' W D2 (.deferred none)
        have hc5 := (gp.block _ (lt_of_block H5.out) (by simp; omega)).trans H5.out
        unfold slC at hc5
        obtain ⟨p0, p1, p2, p3⟩ := four_cells hc5
        have p4 := (H6.out.kept gp (by simp; omega)).cell
        refine ⟨by simp, .inl ⟨_, _, rfl, run_takeDeferred hK, ?_⟩⟩
        refine ⟨.tuple #[slV f ((h + k') % 16), .int .i64 0], by simp [results, Try.results28, go_sem, p0, p1, p2, p3, p4, slV], by rw [← HV.out, ← HR.out]; rfl, below_grown (hB.trans (belowK_b (w := w) (Nat.le_refl _) W D2 _ _ (by omega) hK rfl rfl))⟩
  · have hrm : roomN f s = 8 := by unfold roomN; rw [if_pos hok]
    rw [hrm, if_neg (by decide)]
    simp only [decide_eq_false hok] at hpk
    clear hok hwy hlt hld hsd hrm
    have hgr : w.grownBy ((w.alloc (.cells #[.int .u64 0, .int .u64 0, .int .u64 0, .int .u64 0] 65)).alloc (.cells #[.int .i64 0] 35)) none := grown_trans (World.grownBy_alloc _ _ _) (World.grownBy_alloc _ _ _)
    have r1 : ((w.alloc (.cells #[.int .u64 0, .int .u64 0, .int .u64 0, .int .u64 0] 65)).alloc (.cells #[.int .i64 0] 35)).heap[w.heap.size]? = some (.cells #[.int .u64 0, .int .u64 0, .int .u64 0, .int .u64 0] 65 (0, 0)) := four_first (World.grownBy_alloc _ _ _)
    have r2 : Boxed ((w.alloc (.cells #[.int .u64 0, .int .u64 0, .int .u64 0, .int .u64 0] 65)).alloc (.cells #[.int .i64 0] 35)) (w.heap.size + 1) 35 (.int .i64 0) := by
      have := Boxed.new (w.alloc (.cells #[.int .u64 0, .int .u64 0, .int .u64 0, .int .u64 0] 65)) 35 (.int .i64 0)
      rwa [World.size_alloc] at this
    have R1 := Lib.hid r1
    have R2 := Lib.hid r2
    clear r1 r2
    refine callsIn_of_wp_marks Try.func28 rfl trivial ?_ rfl
    simp only [Try.ntmps28, List.size_toArray, List.length_cons, List.length_nil, Nat.reduceAdd, Nat.reduceSub, Array.replicate_succ, Array.replicate_zero, List.push_toArray, List.append_toArray, List.nil_append, List.cons_append]
    gi_wp2_with (first | (refine ⟨trivial, ?_⟩; gi_at_call 35; (with_reducible refine (hpk _).mono ?_); rintro e w1 ⟨rfl, hg1⟩; have g1 : w1.grownBy (w1.alloc (.cells #[.int .u64 lo, .int .u64 hi] 63)) none := World.grownBy_alloc _ _ _; have G1 := grown_trans hg1 g1; have s1 := (G1.block _ (lt_of_block R1.out) (by simp)).trans R1.out; have s2 := R2.out.kept G1 (by simp); obtain ⟨d0, d1, d2, d3⟩ := four_cells s1; obtain ⟨z0, z1, z2, z3⟩ := four_frozen s1; have c4 := s2.cell; have z4 := s2.frozen))
    obtain ⟨q1, q2, q3, q4⟩ := std_put (x' := .int .u64 0) (y' := .int .u64 0) (z' := .int .u64 0) (q' := .int .u64 0) (v := .int .i64 8) s1 s2 (grown_below (grown_trans hgr G1))
    obtain ⟨p0, p1, p2, p3⟩ := four_cells q1
    have p4 := q2.cell
    refine ⟨.tuple #[.agg #[.int .u64 0, .int .u64 0, .int .u64 0, .int .u64 0], .int .i64 8], by simp [results, Try.results28, go_sem, p0, p1, p2, p3, p4], rfl, below_grown q3⟩
theorem croom_any {w : World} {p : Option Addr} {f : Nat → Nat} {s : ByteArray} (hld : TLd w p f) (hs : s.size ≤ maxLen) :
    Calls Try.prog 28 #[.pointer p, .string s] w fun e w' => e = .returned (rmV f s) ∧ w.grownBy w' none := callsIn_wide.1 (croom_in hld hs)
end Go.Proofs.Ytkkkgikmeiocaaa
namespace Go.Proofs.Ytkkkgikmeiocaaa
open Go.RowKit
set_option maxRecDepth 100000
theorem two_put {w : World} {b : Nat} {x y x' y' : Value} {t : TypeId} (h : w.heap[b]? = some (.cells #[x, y] t (0, 0))) : ((w.setCell ⟨b, 0, none⟩ x').setCell ⟨b, 1, none⟩ y').heap[b]? = some (.cells #[x', y'] t (0, 0)) := by
  rw [heap_setCell_same (heap_setCell_same h x') y']
  rfl
theorem two_set {w : World} {b : Nat} {x' y' : Value} : w.grownBy ((w.setCell ⟨b, 0, none⟩ x').setCell ⟨b, 1, none⟩ y') (some b) := grown_trans (grown_set _ _ _ _) (grown_set _ _ _ _)
section
variable {w w' : World} {f : Nat → Nat} {wv pv : Value} {s : ByteArray} {base K : Nat} {ws : List Nat}
theorem RD.other {b : Nat} {c : Array Value} (h : RD w base wv pv ws f K) (hc : w.heap[b]? = some (.cells c 28 (0, 0))) (hg : w.grownBy w' (some b)) : RD w' base wv pv ws f K := by
  obtain ⟨h0, l, h1, h2, h3⟩ := h
  exact ⟨h0, l, h1.other hc hg, h2, h3⟩
theorem RD.more {K' : Nat} (h : RD w base wv pv ws f K) (hk : K ≤ K') : RD w base wv pv ws f K' := by
  obtain ⟨h0, l, h1, h2, h3⟩ := h
  exact ⟨h0, l, h1, Nat.le_trans h2 hk, h3⟩
def drpF (f : Nat → Nat) (s : ByteArray) : Nat → Nat := match stN f s with | some i => dropD f i | none => f
theorem stN_lt {i : Nat} (e : stN f s = some i) : i < 16 := by
  unfold stN at e
  split at e
  · obtain ⟨m, _, _, _, h4, _⟩ := stF_some e
    exact h4.1
  · cases e
set_option maxHeartbeats 4000000 in
theorem rdrop13 (h : RD w base wv pv ws f K) (hbase : base ≤ w.heap.size) (hK : K ≤ 100000) (hs : s.size ≤ maxLen) :
    Calls Try.prog 22 #[.agg #[wv, pv], .string s] w fun e w' => ∃ pv', e = .returned (.tuple #[.agg #[wv, pv'], .bool (stN f s).isSome]) ∧ RD w' base wv pv' ws (drpF f s) (K + 1) ∧ w.grownBy w' none := by
  obtain ⟨⟨wa, wn, wc, rfl⟩, pa, pn, pc, rfl⟩ := h.form
  have gA := World.grownBy_alloc w (.cells #[.slice wa wn wc, .slice pa pn pc] 28) none
  have gB := World.grownBy_alloc (w.alloc (.cells #[.slice wa wn wc, .slice pa pn pc] 28)) (.cells #[.slice none 0 0, .slice none 0 0] 28) none
  have hg0 := grown_trans gA gB
  have hbx : ∀ V, ((w.alloc (.cells #[.slice wa wn wc, .slice pa pn pc] 28)).alloc (.cells #[.slice none 0 0, .slice none 0 0] 28)).grownBy V none → V.heap[w.heap.size]? = some (.cells #[.slice wa wn wc, .slice pa pn pc] 28 (0, 0)) ∧ V.heap[w.heap.size + 1]? = some (.cells #[.slice none 0 0, .slice none 0 0] 28 (0, 0)) := fun V hg => txs_first hg
  have hst := rstands13 ((h.lds (by omega)).later hg0) hs
  have HB := Lib.hid hbx
  have HR := Lib.hid h
  have HG0 := Lib.hid hg0
  have hsz0 := hg0.size
  obtain ⟨q1, q2, _, _⟩ := tx_cells (hbx _ (grown_refl _ _)).1
  obtain ⟨q3, q4, q5, q6⟩ := tx_cells (hbx _ (grown_refl _ _)).2
  unfold drpF
  cases e : stN f s with
  | none =>
    rw [e] at hst
    have hst' : Calls Try.prog 25 #[.agg #[.slice wa wn wc, .slice pa pn pc], .string s] ((w.alloc (.cells #[.slice wa wn wc, .slice pa pn pc] 28)).alloc (.cells #[.slice none 0 0, .slice none 0 0] 28)) fun e w' => e = .returned (.int .i64 (-1)) ∧ _ := hst
    clear hst e h gA gB hg0 hbx
    go_enter Try.func22, Try.ntmps22
    go_wp2_with (first | (go_at_call 25; (with_reducible refine hst'.mono ?_); rintro e w2 ⟨rfl, hg2⟩; obtain ⟨k1, k2⟩ := HB.out _ hg2; obtain ⟨a1, a2, _, _⟩ := tx_cells k1; obtain ⟨a3, a4, a5, a6⟩ := tx_cells k2; have HK2 := Lib.hid k2; clear k1 k2))
    have hk := two_put (x' := .slice wa wn wc) (y' := .slice pa pn pc) HK2.out
    obtain ⟨z3, z4, _, _⟩ := tx_cells hk
    have g2 := grown_trans HG0.out hg2
    have hend := grown_new (grown_trans (grown_any g2 _) (two_set (w := w2) (b := w.heap.size + 1) (x' := .slice wa wn wc) (y' := .slice pa pn pc))) (by omega)
    refine bodyPost_ret (v := .tuple #[.agg #[.slice wa wn wc, .slice pa pn pc], .bool false]) (by simp [results, Try.results22, go_sem, z3, z4]) rfl ⟨_, rfl, ?_, hend⟩
    exact ((HR.out.later g2).other HK2.out two_set).more (Nat.le_succ _)
  | some i =>
    have hi := stN_lt e
    rw [e] at hst
    have hst' : Calls Try.prog 25 #[.agg #[.slice wa wn wc, .slice pa pn pc], .string s] ((w.alloc (.cells #[.slice wa wn wc, .slice pa pn pc] 28)).alloc (.cells #[.slice none 0 0, .slice none 0 0] 28)) fun e w' => e = .returned (.int .i64 (i : Nat)) ∧ _ := hst
    have hat := fun V => rat13_any i (by omega) V
    have hd8 : (dAt i + 16) % 8 = 0 ∧ dAt i + 16 < 4800 := by unfold dAt; omega
    have hdr : (fun q => if q = dAt i + 16 then 1 else f q) = dropD f i := rfl
    dsimp only
    have hsd := fun (V : World) (hg : w.grownBy V none) => rd_store (v := 1) (h.later hg) (Nat.le_trans hbase hg.size) (by omega) hd8.1 hd8.2
    rw [hdr] at hsd
    obtain ⟨d, ed⟩ : ∃ d, dAt i = d := ⟨_, rfl⟩
    rw [ed] at hat hsd hd8
    have e16 : IntKind.u64.wrap ((d : Int) + 16) = ((d + 16 : Nat) : Int) := by rw [IntKind.wrap_u64]; omega
    obtain ⟨d16, ed16⟩ : ∃ q, d + 16 = q := ⟨_, rfl⟩
    rw [ed16] at e16 hsd
    have hsd' : ∀ V, w.grownBy V none → Calls Try.prog 41 #[.agg #[.slice wa wn wc, .slice pa pn pc], .int .u64 d16, .int .u64 1] V _ := hsd
    have HSD := Lib.hid hsd'
    have i0 : ¬ (i : Int) < 0 := by omega
    clear hst e h gA gB hg0 hbx hsd hsd' ed ed16 hd8 hi hdr hbase
    go_enter Try.func22, Try.ntmps22
    go_wp2_with (first | (go_at_call 25; (with_reducible refine hst'.mono ?_); rintro e w2 ⟨rfl, hg2⟩))
    have g2 := grown_trans HG0.out hg2
    have hcell : ∀ V, w2.grownBy V none → V.cell? ⟨w.heap.size, 0, none⟩ = some (.slice wa wn wc) ∧ V.cell? ⟨w.heap.size, 1, none⟩ = some (.slice pa pn pc) := fun V hg => by
      obtain ⟨c0, c1, _, _⟩ := tx_cells (HB.out V (grown_trans hg2 hg)).1
      exact ⟨c0, c1⟩
    have hcellS : ∀ (V : World) (x y : Value), w2.grownBy V none → ((V.setCell ⟨w.heap.size + 1, 0, none⟩ x).setCell ⟨w.heap.size + 1, 1, none⟩ y).cell? ⟨w.heap.size, 0, none⟩ = some (.slice wa wn wc) ∧ ((V.setCell ⟨w.heap.size + 1, 0, none⟩ x).setCell ⟨w.heap.size + 1, 1, none⟩ y).cell? ⟨w.heap.size, 1, none⟩ = some (.slice pa pn pc) := fun V x y hg => by
      have hb := (HB.out V (grown_trans hg2 hg)).1
      obtain ⟨c0, c1, _, _⟩ := tx_cells (((two_set (w := V) (b := w.heap.size + 1) (x' := x) (y' := y)).block _ (lt_of_block hb) (by simp)).trans hb)
      exact ⟨c0, c1⟩
    have HCELL := Lib.hid hcell
    have HCELLS := Lib.hid hcellS
    have HG : w2.grownBy w2.drew none := grown_drew (grown_refl _ _)
    obtain ⟨c0, c1⟩ := hcell _ HG
    clear hcell hcellS q1 q2 q3 q4 q5 q6
    go_region_held3 (fun V => V.cell? ⟨w.heap.size, 0, none⟩ = some (.slice wa wn wc) ∧ V.cell? ⟨w.heap.size, 1, none⟩ = some (.slice pa pn pc)) (first | exact HCELL.out _ HG | exact HCELLS.out _ _ _ HG) (first
      | (go_at_call 27; (with_reducible refine (hat _).mono ?_); rintro e w3 ⟨rfl, rfl⟩)
      | (go_at_call 41; (with_reducible refine (HSD.out _ (grown_trans g2 HG)).mono ?_); rintro e w3 ⟨pv2, rfl, hr3, hg3⟩; obtain ⟨qa, qn, qc, rfl⟩ := hr3.form.2; replace HG := grown_trans HG hg3; have k2 := (HB.out _ (grown_trans hg2 HG)).2; obtain ⟨a3, a4, a5, a6⟩ := tx_cells k2; have HK2 := Lib.hid k2; clear k2))
    go_wp2
    have hk := two_put (x' := .slice wa wn wc) (y' := .slice qa qn qc) HK2.out
    obtain ⟨z3, z4, _, _⟩ := tx_cells hk
    have g3 := grown_trans g2 HG
    have hend := grown_new (grown_trans (grown_any g3 _) (two_set (w := w3) (b := w.heap.size + 1) (x' := .slice wa wn wc) (y' := .slice qa qn qc))) (by omega)
    refine bodyPost_ret (v := .tuple #[.agg #[.slice wa wn wc, .slice qa qn qc], .bool true]) (by simp [results, Try.results22, go_sem, z3, z4]) rfl ⟨_, rfl, ?_, hend⟩
    exact hr3.other HK2.out two_set
end
end Go.Proofs.Ytkkkgikmeiocaaa
