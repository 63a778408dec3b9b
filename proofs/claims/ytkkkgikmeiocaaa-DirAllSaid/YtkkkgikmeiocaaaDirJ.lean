/-
  Texts of one layer, one behind the other: memory, contracts of the functions, and what follows of them.
  Conditions: as each theorem says.
-/
import Derived.Test.YtkkkgikmeiocaaaDirI
import Derived.Test.YtkkkgikmeiocaaaDirC
set_option linter.unusedVariables false
set_option linter.unusedSimpArgs false
namespace Go.Proofs.Ytkkkgikmeiocaaa
open Go.RowKit Go.Shelf
set_option maxRecDepth 100000
attribute [local go_sem] Oper.semAt_some
theorem cells_past13 {X Y : World} {row : Option Nat} {n : Nat} (hg : X.grownBy Y row) (hr : ∀ r, row = some r → n ≤ r ∧ ∃ o : Obj, X.heap[r]? = some o ∧ o.isCells = false) {b : Nat} {c : Array Value} {t : TypeId} {fr : Nat × Nat} (h : X.heap[b]? = some (.cells c t fr)) : Y.heap[b]? = some (.cells c t fr) :=
  (hg.block b (lt_of_block h) fun e => by
    obtain ⟨_, o, ho, hc⟩ := hr _ e.symm
    rw [h] at ho; cases ho; cases hc).trans h
def slC (f : Nat → Nat) (i : Nat) : Array Value := #[.int .u64 (dAt i : Nat), .int .u64 (f (dAt i) : Nat), .int .u64 (f (dAt i + 8) : Nat), .int .u64 (f (dAt i + 16) : Nat)]
structure StI (w : World) (f : Nat → Nat) (h a b bw : Nat) (pre : List Nat) (W : World) : Prop where
  no : ∀ k ∈ pre, f (dAt ((h + k) % 16) + 16) ≠ 0 ∧ ¬ liveD f a b ((h + k) % 16)
  r1 : W.heap[w.heap.size]? = some (.cells #[.int .u64 0, .int .u64 0, .int .u64 0, .int .u64 0] 65 (0, 0))
  r2 : Boxed W (w.heap.size + 1) 4 (.bool false)
  bx : W.heap[bw]? = some (.cells #[.int .u64 a, .int .u64 b] 63 (0, 0))
  below : Below w.heap.size w W
  big : bw + 3 ≤ W.heap.size
structure StX (w : World) (f : Nat → Nat) (h a b : Nat) (c : Code) (pre : List Nat) (W : World) : Prop where
  res : (c = .ret ∧ ∃ k, pre.getLast? = some k ∧ liveD f a b ((h + k) % 16) ∧ (∀ q ∈ pre.dropLast, f (dAt ((h + q) % 16) + 16) ≠ 0 ∧ ¬ liveD f a b ((h + q) % 16)) ∧ W.heap[w.heap.size]? = some (.cells (slC f ((h + k) % 16)) 65 (0, 0)) ∧ Boxed W (w.heap.size + 1) 4 (.bool true)) ∨
    (c = .exit 0 ∧ (∃ k, pre.getLast? = some k ∧ f (dAt ((h + k) % 16) + 16) = 0 ∧ ∀ q ∈ pre.dropLast, f (dAt ((h + q) % 16) + 16) ≠ 0 ∧ ¬ liveD f a b ((h + q) % 16)) ∧ W.heap[w.heap.size]? = some (.cells #[.int .u64 0, .int .u64 0, .int .u64 0, .int .u64 0] 65 (0, 0)) ∧ Boxed W (w.heap.size + 1) 4 (.bool false))
  below : Below w.heap.size w W
theorem StI.own (w : World) (n : Nat) (f : Nat → Nat) (h a b bw : Nat) (hn : w.heap.size ≤ n) : OwnFrom n (StI w f h a b bw) := fun pre X Y row hs hg hr =>
  ⟨hs.no, cells_past13 hg hr hs.r1, cells_past13 hg hr hs.r2, cells_past13 hg hr hs.bx, hs.below.grown hg hs.below.size (fun k e => Nat.le_trans hn (hr k e).1), Nat.le_trans hs.big hg.size⟩
theorem StX.own (w : World) (n : Nat) (f : Nat → Nat) (h a b : Nat) (c : Code) (hn : w.heap.size ≤ n) : OwnFrom n (StX w f h a b c) := fun pre X Y row hs hg hr =>
  ⟨by
    rcases hs.res with ⟨h1, k, h2, h3, h4, h5, h6⟩ | ⟨h1, h2, h5, h6⟩
    · exact .inl ⟨h1, k, h2, h3, h4, cells_past13 hg hr h5, cells_past13 hg hr h6⟩
    · exact .inr ⟨h1, h2, cells_past13 hg hr h5, cells_past13 hg hr h6⟩, hs.below.grown hg hs.below.size (fun k e => Nat.le_trans hn (hr k e).1)⟩
theorem StI.later {w W W' : World} {f : Nat → Nat} {h a b bw : Nat} {pre : List Nat} (hs : StI w f h a b bw pre W) (hg : W.grownBy W' none) : StI w f h a b bw pre W' :=
  ⟨hs.no, (hg.block _ (lt_of_block hs.r1) (by simp)).trans hs.r1, hs.r2.kept hg (by simp), (hg.block _ (lt_of_block hs.bx) (by simp)).trans hs.bx, hs.below.grown hg hs.below.size (fun k e => by cases e), Nat.le_trans hs.big hg.size⟩
theorem std_put {w W : World} {x y z q x' y' z' q' u v : Value} {t t2 : TypeId} (h1 : W.heap[w.heap.size]? = some (.cells #[x, y, z, q] t (0, 0))) (h2 : Boxed W (w.heap.size + 1) t2 u) (hB : Below w.heap.size w W) :
    (((((W.setCell ⟨w.heap.size, 0, none⟩ x').setCell ⟨w.heap.size, 1, none⟩ y').setCell ⟨w.heap.size, 2, none⟩ z').setCell ⟨w.heap.size, 3, none⟩ q').setCell ⟨w.heap.size + 1, 0, none⟩ v).heap[w.heap.size]? = some (.cells #[x', y', z', q'] t (0, 0)) ∧ Boxed (((((W.setCell ⟨w.heap.size, 0, none⟩ x').setCell ⟨w.heap.size, 1, none⟩ y').setCell ⟨w.heap.size, 2, none⟩ z').setCell ⟨w.heap.size, 3, none⟩ q').setCell ⟨w.heap.size + 1, 0, none⟩ v) (w.heap.size + 1) t2 v ∧ Below w.heap.size w (((((W.setCell ⟨w.heap.size, 0, none⟩ x').setCell ⟨w.heap.size, 1, none⟩ y').setCell ⟨w.heap.size, 2, none⟩ z').setCell ⟨w.heap.size, 3, none⟩ q').setCell ⟨w.heap.size + 1, 0, none⟩ v) ∧ KeepsOthers W (((((W.setCell ⟨w.heap.size, 0, none⟩ x').setCell ⟨w.heap.size, 1, none⟩ y').setCell ⟨w.heap.size, 2, none⟩ z').setCell ⟨w.heap.size, 3, none⟩ q').setCell ⟨w.heap.size + 1, 0, none⟩ v) := by
  have q1 := four_put h1 (x' := x') (y' := y') (z' := z') (p' := q')
  have g1 : W.grownBy ((((W.setCell ⟨w.heap.size, 0, none⟩ x').setCell ⟨w.heap.size, 1, none⟩ y').setCell ⟨w.heap.size, 2, none⟩ z').setCell ⟨w.heap.size, 3, none⟩ q') (some w.heap.size) := four_set
  refine ⟨((grown_set _ _ _ _).block _ (lt_of_block q1) (by simp)).trans q1, (h2.kept g1 (by simp)).set v, ?_, (((((KeepsOthers.setCell _ _ _).trans (KeepsOthers.setCell _ _ _)).trans (KeepsOthers.setCell _ _ _)).trans (KeepsOthers.setCell _ _ _)).trans (KeepsOthers.setCell _ _ _))⟩
  exact ((((hB.setCell (p := ⟨w.heap.size, 0, none⟩) (Nat.le_refl _) _).setCell (p := ⟨w.heap.size, 1, none⟩) (Nat.le_refl _) _).setCell (p := ⟨w.heap.size, 2, none⟩) (Nat.le_refl _) _).setCell (p := ⟨w.heap.size, 3, none⟩) (Nat.le_refl _) _).setCell (p := ⟨w.heap.size + 1, 0, none⟩) (by show w.heap.size ≤ w.heap.size + 1; omega) _
def stdV (f : Nat → Nat) (o : Option Nat) : Value := match o with
  | some i => .tuple #[slV f i, .bool true]
  | none => .tuple #[.agg #[.int .u64 0, .int .u64 0, .int .u64 0, .int .u64 0], .bool false]
set_option maxHeartbeats 4000000 in
theorem cstanding_in {w : World} {p : Option Addr} {f : Nat → Nat} {s : ByteArray} (hld : TLd w p f) (hs : s.size ≤ maxLen) :
    CallsIn Fence.wide 6 Try.prog 24 #[.pointer p, .string s] w fun e w' => e = .returned (stdV f (stN f s)) ∧ w.grownBy w' none := by
  have hpk : ∀ V : World, CallsIn Fence.wide 5 Try.prog 35 #[.string s] V _ := fun V => (callsIn_wide (n := 5)).2 (pack13 s hs V)
  have hwy : ∀ V : World, CallsIn Fence.wide 5 Try.prog 42 #[.pointer p, .string s] V _ := fun V => (callsIn_wide (n := 5)).2 (cway_any p s hs V)
  have hlt := (hN_is s).2
  unfold stN
  by_cases hok : nmOk s
  · rw [if_pos hok]
    simp only [decide_eq_true hok] at hpk
    obtain ⟨lo, elo⟩ : ∃ x, loD s = x := ⟨_, rfl⟩
    obtain ⟨hi, ehi⟩ : ∃ x, hiD s = x := ⟨_, rfl⟩
    have hst := fun (W0 : World) (tb : Nat) => cround_stops (w0 := W0) (tb := tb) (f := f) (w := w) (p := p) (n := hN s) hld hlt
    unfold hD
    rw [elo, ehi] at hpk ⊢
    obtain ⟨n, en⟩ : ∃ x, hN s = x := ⟨_, rfl⟩
    rw [en] at hwy hlt ⊢
    simp only [en] at hst
    obtain ⟨h, eh⟩ : ∃ x, n % 16 = x := ⟨_, rfl⟩
    simp only [eh] at hst
    rw [eh]
    clear elo ehi en eh hld
    obtain ⟨r0, er⟩ : ∃ r, stF f h lo hi 16 0 = r := ⟨_, rfl⟩
    rw [er]
    have ER := Lib.hid er
    clear er
    have HST := Lib.hid hst
    clear hst hok
    refine callsIn_of_wp_marks Try.func24 rfl trivial ?_ rfl
    simp only [Try.ntmps24, List.size_toArray, List.length_cons, List.length_nil, Nat.reduceAdd, Nat.reduceSub, Array.replicate_succ, Array.replicate_zero, List.push_toArray, List.append_toArray, List.nil_append, List.cons_append]
    gi_wp2_with (first | (refine ⟨trivial, ?_⟩; gi_at_call 35; (with_reducible refine (hpk _).mono ?_); rintro e w1 ⟨rfl, hg1⟩) | (refine ⟨trivial, ?_⟩; gi_at_call 42; (with_reducible refine (hwy _).mono ?_); rintro e w2 ⟨rfl, rfl⟩))
    have hgr : w.grownBy ((w.alloc (.cells #[.int .u64 0, .int .u64 0, .int .u64 0, .int .u64 0] 65)).alloc (.cells #[.bool false] 4)) none := grown_trans (World.grownBy_alloc _ _ _) (World.grownBy_alloc _ _ _)
    have r1 : ((w.alloc (.cells #[.int .u64 0, .int .u64 0, .int .u64 0, .int .u64 0] 65)).alloc (.cells #[.bool false] 4)).heap[w.heap.size]? = some (.cells #[.int .u64 0, .int .u64 0, .int .u64 0, .int .u64 0] 65 (0, 0)) := four_first (World.grownBy_alloc _ _ _)
    have r2 : Boxed ((w.alloc (.cells #[.int .u64 0, .int .u64 0, .int .u64 0, .int .u64 0] 65)).alloc (.cells #[.bool false] 4)) (w.heap.size + 1) 4 (.bool false) := by
      have := Boxed.new (w.alloc (.cells #[.int .u64 0, .int .u64 0, .int .u64 0, .int .u64 0] 65)) 4 (.bool false)
      rwa [World.size_alloc] at this
    have hsA : ((w.alloc (.cells #[.int .u64 0, .int .u64 0, .int .u64 0, .int .u64 0] 65)).alloc (.cells #[.bool false] 4)).heap.size = w.heap.size + 1 + 1 := by simp
    have hs1 := hg1.size
    rw [hsA] at hs1
    obtain ⟨bw, ebw⟩ : ∃ bw, w1.heap.size = bw := ⟨_, rfl⟩
    have g1 : w1.grownBy (w1.alloc (.cells #[.int .u64 lo, .int .u64 hi] 63)) none := World.grownBy_alloc _ _ _
    have b0 : (w1.alloc (.cells #[.int .u64 lo, .int .u64 hi] 63)).heap[bw]? = some (.cells #[.int .u64 lo, .int .u64 hi] 63 (0, 0)) := by rw [← ebw]; exact heap_alloc_new' _ _
    have hz0 : (w1.alloc (.cells #[.int .u64 lo, .int .u64 hi] 63)).heap.size = bw + 1 := by rw [World.size_alloc, ebw]
    obtain ⟨A1, hA1⟩ : ∃ W, w1.alloc (.cells #[.int .u64 lo, .int .u64 hi] 63) = W := ⟨_, rfl⟩
    rw [hA1] at g1 b0 hz0 ⊢
    obtain ⟨A2, hA2⟩ : ∃ W, A1.alloc (.cells #[.pointer p] 25) = W := ⟨_, rfl⟩
    have b3 : Boxed A2 (bw + 1) 25 (.pointer p) := by rw [← hA2, ← hz0]; exact Boxed.new _ _ _
    have hz1 : A2.heap.size = bw + 1 + 1 := by rw [← hA2, World.size_alloc, hz0]
    have g2 : A1.grownBy A2 none := by rw [← hA2]; exact World.grownBy_alloc _ _ _
    rw [hA2]
    obtain ⟨W0, hW0⟩ : ∃ W, A2.alloc (.cells #[.int .u64 n] 31) = W := ⟨_, rfl⟩
    have b4 : Boxed W0 (bw + 1 + 1) 31 (.int .u64 n) := by rw [← hW0, ← hz1]; exact Boxed.new _ _ _
    have hz2 : W0.heap.size = bw + 3 := by rw [← hW0, World.size_alloc, hz1]
    have g3 : A2.grownBy W0 none := by rw [← hW0]; exact World.grownBy_alloc _ _ _
    rw [hW0]
    have gB := grown_trans hg1 (grown_trans g1 (grown_trans g2 g3))
    have gA := grown_trans hgr gB
    have k1 := (gB.block _ (lt_of_block r1) (by simp)).trans r1
    have k2 := r2.kept gB (by simp)
    have k3 := ((grown_trans g2 g3).block _ (lt_of_block b0) (by simp)).trans b0
    have k4 := b3.kept g3 (by simp)
    have hseq := HST.out W0 (bw + 1) (grown_below gA) k4 b4
    rw [ebw] at hs1 ⊢
    clear hW0 hA1 hA2 HST hpk hwy b0 b3 b4 k4 r1 r2 hg1 g1 g2 g3 hgr hz0 hz1 hsA ebw gB
    refine wpIn_rangeFunc_ownH rfl (by decide) (gf := 46) (lb := #[.pointer (some ⟨bw + 1, 0, none⟩), .pointer (some ⟨bw + 1 + 1, 0, none⟩)]) rfl trivial (enters_of Try.func46 (by kernel_rfl) rfl) hseq (fun h k => RdK.trans h k) (fun W l o o' hl h hc hw => RdK.put (w0 := W0) gA.size (by omega) W l o o' hl h hc hw) (Below.refl _ _) (fun _ => rfl)
      (StI w f h lo hi bw) (StX w f h lo hi) (StI.own w _ f h lo hi bw gA.size) (fun c => StX.own w _ f h lo hi c gA.size)
      ⟨fun j hj => absurd hj (by simp), k1, k2, k3, grown_below gA, by omega⟩
      (fun x a' W => ∃ B, bw + 3 ≤ B ∧ W.heap[B]? = some (.cells (slC f ((h + x) % 16)) 65 (0, 0)) ∧ a' = { tmps := #[.pointer p, .string s, undef, undef, .pointer (some ⟨w.heap.size, 0, none⟩), .pointer (some ⟨w.heap.size + 1, 0, none⟩), .pointer (some ⟨bw, 0, none⟩), .bool true, .pointer (some ⟨B, 0, none⟩), .tuple #[.agg #[.int .u64 lo, .int .u64 hi], .bool true], .string s, .tuple #[.agg #[.int .u64 lo, .int .u64 hi], .bool true], .agg #[.int .u64 lo, .int .u64 hi], .bool true, .bool true, .bool false, undef, .pointer p, .string s, .func (.func 46) #[] #[.pointer (some ⟨bw + 1, 0, none⟩), .pointer (some ⟨bw + 1 + 1, 0, none⟩)], slV f ((h + x) % 16), undef, undef, undef, undef, undef, undef, undef, undef, undef, undef, undef, undef, undef, undef], defers := [] })
      (fun x a' _ X Y row hs hg hr => by
        obtain ⟨B, q1, q2, q3⟩ := hs
        exact ⟨B, q1, cells_past13 hg hr q2, q3⟩)
      ?assign ?body ?done ?stop
    case assign =>
      rintro yl pre x W K hI hK
      obtain ⟨j, ej⟩ : ∃ j, (h + x) % 16 = j := ⟨_, rfl⟩
      rw [ej] at hK ⊢
      unfold slC at hK
      unfold slV at hK ⊢
      gi_wp2
      exact hK _ _ ((KeepsOthers.alloc _ _).from _) (RdK.grown (row := none) hI.below.size (World.grownBy_alloc _ _ _) (fun r e => by cases e)) (hI.later (World.grownBy_alloc _ _ _)) ⟨W.heap.size, hI.big, heap_alloc_new' _ _, rfl⟩
    case body =>
      rintro yl pre x a' W hl ⟨r, hr⟩ hI ⟨B, hB, hc, rfl⟩ hlt2
      have hll : (pre ++ [x]).getLast? = some x := by simp
      have hdl : (pre ++ [x]).dropLast = pre := by simp
      have hcs := fun (q : Nat) V => (callsIn_wide (n := 3)).2 (cstands_any q V)
      have heq := eq_arr
      have hsum : ∀ k ∈ pre ++ [x], k ∈ pre ∨ k = x := fun k hk => by
        rcases List.mem_append.1 hk with h | h
        · exact .inl h
        · exact .inr (List.mem_singleton.1 h)
      have hlv : liveD f lo hi ((h + x) % 16) ↔ 1 < f (dAt ((h + x) % 16) + 16) ∧ f (dAt ((h + x) % 16)) = lo ∧ f (dAt ((h + x) % 16) + 8) = hi := ⟨fun h => h.2, fun h => ⟨Nat.mod_lt _ (by decide), h⟩⟩
      have hno := hI.no
      have HX : ∀ W', W.grownBy W' none → StX w f h lo hi (.exit 0) (pre ++ [x]) W' ∨ True := fun _ _ => .inr trivial
      clear HX
      have hpay := hlv
      obtain ⟨c0, c1, c2, c3⟩ := four_cells hc
      obtain ⟨b0, b1, _, _⟩ := tx_cells hI.bx
      obtain ⟨j, ej⟩ : ∃ j, (h + x) % 16 = j := ⟨_, rfl⟩
      unfold slV
      rw [ej] at hc c0 c1 c2 c3 hlv ⊢
      obtain ⟨d, ed⟩ : ∃ d, dAt j = d := ⟨_, rfl⟩
      rw [ed] at hlv c0 c1 c2 c3 ⊢
      obtain ⟨x0, ex0⟩ : ∃ q, f d = q := ⟨_, rfl⟩
      obtain ⟨x8, ex8⟩ : ∃ q, f (d + 8) = q := ⟨_, rfl⟩
      obtain ⟨x16, ex16⟩ : ∃ q, f (d + 16) = q := ⟨_, rfl⟩
      rw [ex0, ex8, ex16] at hlv ⊢
      rw [ex0] at c1
      rw [ex8] at c2
      rw [ex16] at c3
      by_cases hx0 : x16 = 0
      · have hxi : (x16 : Int) = 0 := by omega
        have HI := Lib.hid hI
        have hfx : f (dAt ((h + x) % 16) + 16) = 0 := by rw [ej, ed, ex16]; exact hx0
        have HFX := Lib.hid hfx
        clear hfx hI hno hlv hpay hx0 hcs heq hsum ex0 ex8 ex16
        gi_wp2
        exact ⟨(KeepsOthers.refl _).from _, .inr ⟨rfl, ⟨x, hll, HFX.out, by rw [hdl]; exact HI.out.no⟩, HI.out.r1, HI.out.r2⟩, HI.out.below⟩
      · have hxi : ¬ (x16 : Int) = 0 := by omega
        have hfx : f (dAt ((h + x) % 16) + 16) ≠ 0 := by rw [ej, ed, ex16]; exact hx0
        have hgo : ¬ liveD f lo hi j → StI w f h lo hi bw (pre ++ [x]) W := fun hn => ⟨fun k hk => by
          rcases hsum k hk with h | rfl
          · exact hno k h
          · exact ⟨hfx, by rw [ej]; exact hn⟩, hI.r1, hI.r2, hI.bx, hI.below, hI.big⟩
        have HI := Lib.hid hI
        have HGO := Lib.hid hgo
        have HFX := Lib.hid hfx
        by_cases hx1 : 1 < x16
        · by_cases hxl : x0 = lo
          · have hxli : ((x0 : Int) == (lo : Int)) = true := by rw [hxl]; simp
            by_cases hxh : x8 = hi
            · have hxhi : ((x8 : Int) == (hi : Int)) = true := by rw [hxh]; simp
              have HLV := Lib.hid (hlv.2 ⟨hx1, hxl, hxh⟩)
              have hcs1 := hcs x16
              rw [decide_eq_true hx1] at hcs1
              have HC := Lib.hid hc
              obtain ⟨d0, d1, d2, d3⟩ := four_cells hI.r1
              obtain ⟨z0, z1, z2, z3⟩ := four_frozen hI.r1
              have c4 := hI.r2.cell
              have z4 := hI.r2.frozen
              clear hI hgo hfx hno hlv hpay hsum hcs hx0 hx1 hxl hxh hc
              gi_wp2_with (refine ⟨trivial, ?_⟩; gi_at_call 32; (with_reducible refine (CallsIn.inRound yl (hcs1 _)).mono ?_); rintro e w2 ⟨rfl, rfl⟩)
              obtain ⟨q1, q2, q3, q4⟩ := std_put (x' := .int .u64 (d : Nat)) (y' := .int .u64 (x0 : Nat)) (z' := .int .u64 (x8 : Nat)) (q' := .int .u64 (x16 : Nat)) (v := .bool true) HI.out.r1 HI.out.r2 HI.out.below
              exact ⟨q4.from _, .inl ⟨rfl, x, hll, by rw [ej]; exact HLV.out, by rw [hdl]; exact HI.out.no, by rw [ej]; unfold slC; rw [ed, ex0, ex8, ex16]; exact q1, q2⟩, q3⟩
            · have hxhi : ((x8 : Int) == (hi : Int)) = false := by simpa using fun e => hxh (by omega)
              have HLV := Lib.hid (show ¬ liveD f lo hi j from fun h => hxh (hlv.1 h).2.2)
              have hcs1 := hcs x16
              rw [decide_eq_true hx1] at hcs1
              clear hI hgo hfx hno hlv hpay hsum hcs hx0 hx1 hxl hxh hc
              gi_wp2_with (refine ⟨trivial, ?_⟩; gi_at_call 32; (with_reducible refine (CallsIn.inRound yl (hcs1 _)).mono ?_); rintro e w2 ⟨rfl, rfl⟩)
              exact ⟨(KeepsOthers.refl _).from _, RdK.refl _ _ _ _ _, HGO.out HLV.out⟩
          · have hxli : ((x0 : Int) == (lo : Int)) = false := by simpa using fun e => hxl (by omega)
            have HLV := Lib.hid (show ¬ liveD f lo hi j from fun h => hxl (hlv.1 h).2.1)
            have hcs1 := hcs x16
            rw [decide_eq_true hx1] at hcs1
            clear hI hgo hfx hno hlv hpay hsum hcs hx0 hx1 hxl hc
            gi_wp2_with (refine ⟨trivial, ?_⟩; gi_at_call 32; (with_reducible refine (CallsIn.inRound yl (hcs1 _)).mono ?_); rintro e w2 ⟨rfl, rfl⟩)
            exact ⟨(KeepsOthers.refl _).from _, RdK.refl _ _ _ _ _, HGO.out HLV.out⟩
        · have HLV := Lib.hid (show ¬ liveD f lo hi j from fun h => hx1 (hlv.1 h).1)
          have hcs1 := hcs x16
          rw [decide_eq_false hx1] at hcs1
          clear hI hgo hfx hno hlv hpay hsum hcs hx0 hx1 hc
          gi_wp2_with (refine ⟨trivial, ?_⟩; gi_at_call 32; (with_reducible refine (CallsIn.inRound yl (hcs1 _)).mono ?_); rintro e w2 ⟨rfl, rfl⟩)
          exact ⟨(KeepsOthers.refl _).from _, RdK.refl _ _ _ _ _, HGO.out HLV.out⟩
    case done =>
      rintro D2 ys W hD rfl hI hK
      have hnone : stF f h lo hi 16 0 = none := stF_none fun m _ hm _ => (hI.no m (List.mem_range.2 (by omega))).2
      have HR := Lib.hid (hnone.symm.trans ER.out)
      obtain ⟨d0, d1, d2, d3⟩ := four_cells hI.r1
      obtain ⟨z0, z1, z2, z3⟩ := four_frozen hI.r1
      have c4 := hI.r2.cell
      have z4 := hI.r2.frozen
      have HI := Lib.hid hI
      clear hI hnone
      gi_wp2
      obtain ⟨q1, q2, q3, q4⟩ := std_put (x' := .int .u64 0) (y' := .int .u64 0) (z' := .int .u64 0) (q' := .int .u64 0) (v := .bool false) HI.out.r1 HI.out.r2 HI.out.below
      have hK2 := q4.same D2 _ hK rfl
      obtain ⟨W2, hW2⟩ : ∃ W2, (((((W.setCell ⟨w.heap.size, 0, none⟩ (.int .u64 0)).setCell ⟨w.heap.size, 1, none⟩ (.int .u64 0)).setCell ⟨w.heap.size, 2, none⟩ (.int .u64 0)).setCell ⟨w.heap.size, 3, none⟩ (.int .u64 0)).setCell ⟨w.heap.size + 1, 0, none⟩ (.bool false)) = W2 := ⟨_, rfl⟩
      rw [hW2] at q1 q2 q3 hK2 ⊢
      have gp := grownBy_putObj' W2 D2 (.deferred none)
      obtain ⟨p0, p1, p2, p3⟩ := four_cells ((gp.block _ (lt_of_block q1) (by simp; omega)).trans q1)
      have p4 := (q2.kept gp (by simp; omega)).cell
      refine ⟨by simp, .inl ⟨_, _, rfl, run_takeDeferred hK2, ?_⟩⟩
      refine ⟨stdV f none, by simp [results, Try.results24, go_sem, p0, p1, p2, p3, p4, stdV], by rw [← HR.out], below_grown (q3.trans (belowK_b (w := w) (Nat.le_refl _) W2 D2 _ _ (by omega) hK2 rfl rfl))⟩
    case stop =>
      rintro D2 c pre W hD ⟨k, hk, rfl⟩ hX hK
      have hB := hX.below
      rcases hX.res with ⟨rfl, k', h2, h3, h4, h5, h6⟩ | ⟨rfl, ⟨k', h2, h3, h4⟩, h5, h6⟩
      · obtain rfl : k' = k := by rw [List.range_succ] at h2; simpa using h2.symm
        have hsome : stF f h lo hi 16 0 = some ((h + k') % 16) := stF_is (Nat.zero_le _) (by omega) h3 fun q _ hq => h4 q (by rw [List.range_succ]; simpa using hq)
        have HR := Lib.hid (hsome.symm.trans ER.out)
        have H5 := Lib.hid h5
        have H6 := Lib.hid h6
        clear hX h2 h3 h4 h5 h6 hsome
        gi_wp2
        have gp := grownBy_putObj' W D2 (.deferred none)
        have hc5 := (gp.block _ (lt_of_block H5.out) (by simp; omega)).trans H5.out
        unfold slC at hc5
        obtain ⟨p0, p1, p2, p3⟩ := four_cells hc5
        have p4 := (H6.out.kept gp (by simp; omega)).cell
        refine ⟨by simp, .inl ⟨_, _, rfl, run_takeDeferred hK, ?_⟩⟩
        refine ⟨stdV f (some ((h + k') % 16)), by simp [results, Try.results24, go_sem, p0, p1, p2, p3, p4, stdV, slV], by rw [← HR.out], below_grown (hB.trans (belowK_b (w := w) (Nat.le_refl _) W D2 _ _ (by omega) hK rfl rfl))⟩
      · obtain rfl : k' = k := by rw [List.range_succ] at h2; simpa using h2.symm
        have hnone : stF f h lo hi 16 0 = none := stF_none fun m _ hm hq => by
          rcases Nat.lt_trichotomy m k' with h | rfl | h
          · exact (h4 m (by rw [List.range_succ]; simpa using h)).2
          · exact fun hl => by have := hl.2.1; omega
          · exact absurd h3 (hq k' (Nat.zero_le _) h)
        have HR := Lib.hid (hnone.symm.trans ER.out)
        obtain ⟨d0, d1, d2, d3⟩ := four_cells h5
        obtain ⟨z0, z1, z2, z3⟩ := four_frozen h5
        have c4 := h6.cell
        have z4 := h6.frozen
        have H5 := Lib.hid h5
        have H6 := Lib.hid h6
        have HB := Lib.hid hB
        clear hX h2 h3 h4 h5 h6 hnone hB
        gi_wp2
        obtain ⟨q1, q2, q3, q4⟩ := std_put (x' := .int .u64 0) (y' := .int .u64 0) (z' := .int .u64 0) (q' := .int .u64 0) (v := .bool false) H5.out H6.out HB.out
        have hK2 := q4.same D2 _ hK rfl
        obtain ⟨W2, hW2⟩ : ∃ W2, (((((W.setCell ⟨w.heap.size, 0, none⟩ (.int .u64 0)).setCell ⟨w.heap.size, 1, none⟩ (.int .u64 0)).setCell ⟨w.heap.size, 2, none⟩ (.int .u64 0)).setCell ⟨w.heap.size, 3, none⟩ (.int .u64 0)).setCell ⟨w.heap.size + 1, 0, none⟩ (.bool false)) = W2 := ⟨_, rfl⟩
        rw [hW2] at q1 q2 q3 hK2 ⊢
        have gp := grownBy_putObj' W2 D2 (.deferred none)
        obtain ⟨p0, p1, p2, p3⟩ := four_cells ((gp.block _ (lt_of_block q1) (by simp; omega)).trans q1)
        have p4 := (q2.kept gp (by simp; omega)).cell
        refine ⟨by simp, .inl ⟨_, _, rfl, run_takeDeferred hK2, ?_⟩⟩
        refine ⟨stdV f none, by simp [results, Try.results24, go_sem, p0, p1, p2, p3, p4, stdV], by rw [← HR.out], below_grown (q3.trans (belowK_b (w := w) (Nat.le_refl _) W2 D2 _ _ (by omega) hK2 rfl rfl))⟩
  · rw [if_neg hok]
    simp only [decide_eq_false hok] at hpk
    clear hok hwy hlt hld
    refine callsIn_of_wp_marks Try.func24 rfl trivial ?_ rfl
    simp only [Try.ntmps24, List.size_toArray, List.length_cons, List.length_nil, Nat.reduceAdd, Nat.reduceSub, Array.replicate_succ, Array.replicate_zero, List.push_toArray, List.append_toArray, List.nil_append, List.cons_append]
    have hgr : w.grownBy ((w.alloc (.cells #[.int .u64 0, .int .u64 0, .int .u64 0, .int .u64 0] 65)).alloc (.cells #[.bool false] 4)) none := grown_trans (World.grownBy_alloc _ _ _) (World.grownBy_alloc _ _ _)
    have r1 : ((w.alloc (.cells #[.int .u64 0, .int .u64 0, .int .u64 0, .int .u64 0] 65)).alloc (.cells #[.bool false] 4)).heap[w.heap.size]? = some (.cells #[.int .u64 0, .int .u64 0, .int .u64 0, .int .u64 0] 65 (0, 0)) := four_first (World.grownBy_alloc _ _ _)
    have r2 : Boxed ((w.alloc (.cells #[.int .u64 0, .int .u64 0, .int .u64 0, .int .u64 0] 65)).alloc (.cells #[.bool false] 4)) (w.heap.size + 1) 4 (.bool false) := by
      have := Boxed.new (w.alloc (.cells #[.int .u64 0, .int .u64 0, .int .u64 0, .int .u64 0] 65)) 4 (.bool false)
      rwa [World.size_alloc] at this
    have R1 := Lib.hid r1
    have R2 := Lib.hid r2
    clear r1 r2
    obtain ⟨lo, elo⟩ : ∃ x, loD s = x := ⟨_, rfl⟩
    obtain ⟨hi, ehi⟩ : ∃ x, hiD s = x := ⟨_, rfl⟩
    rw [elo, ehi] at hpk
    clear elo ehi
    gi_wp2_with (first | (refine ⟨trivial, ?_⟩; gi_at_call 35; (with_reducible refine (hpk _).mono ?_); rintro e w1 ⟨rfl, hg1⟩; have g1 : w1.grownBy (w1.alloc (.cells #[.int .u64 lo, .int .u64 hi] 63)) none := World.grownBy_alloc _ _ _; have s1 := ((grown_trans hg1 g1).block _ (lt_of_block R1.out) (by simp)).trans R1.out; have s2 := R2.out.kept (grown_trans hg1 g1) (by simp); obtain ⟨d0, d1, d2, d3⟩ := four_cells s1; obtain ⟨z0, z1, z2, z3⟩ := four_frozen s1; have c4 := s2.cell; have z4 := s2.frozen))
    obtain ⟨q1, q2, q3, q4⟩ := std_put (x' := .int .u64 0) (y' := .int .u64 0) (z' := .int .u64 0) (q' := .int .u64 0) (v := .bool false) s1 s2 (grown_below (grown_trans hgr (grown_trans hg1 g1)))
    obtain ⟨p0, p1, p2, p3⟩ := four_cells q1
    have p4 := q2.cell
    refine ⟨stdV f none, by simp [results, Try.results24, go_sem, p0, p1, p2, p3, p4, stdV], rfl, below_grown q3⟩
theorem cstanding_any {w : World} {p : Option Addr} {f : Nat → Nat} {s : ByteArray} (hld : TLd w p f) (hs : s.size ≤ maxLen) :
    Calls Try.prog 24 #[.pointer p, .string s] w fun e w' => e = .returned (stdV f (stN f s)) ∧ w.grownBy w' none := callsIn_wide.1 (cstanding_in hld hs)
end Go.Proofs.Ytkkkgikmeiocaaa
