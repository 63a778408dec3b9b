/-
  Layer 10's plain answer Take: its errors' ways (an owner out of bounds; Fit's errors).
-/
import Derived.Test.YtoamlkljfmgomaaGreatCarI
namespace Go.Proofs.YtoamlkljfmgomaaGreat
open Go.RowKit
set_option linter.unusedVariables false
set_option linter.unusedSimpArgs false
set_option maxRecDepth 100000

theorem take_box {w : World} {cs ds : Array Value} {t u : TypeId} {V : World} (hg : ((w.alloc (.cells cs t)).alloc (.cells ds u)).grownBy V none) :
    V.heap[w.heap.size]? = some (.cells cs t (0, 0)) ∧ w.grownBy V none ∧ V.heap[w.heap.size + 1]? = some (.cells ds u (0, 0)) :=
  ⟨(hg.block w.heap.size (by simp; omega) (by simp)).trans ((Below.heap_alloc _ _ _ (by simp)).trans (heap_alloc_new' w (.cells cs t))), grown_trans (World.grownBy_alloc _ _ _) (grown_trans (World.grownBy_alloc _ _ _) hg), (hg.block (w.heap.size + 1) (by simp) (by simp)).trans (by have := heap_alloc_new' (w.alloc (.cells cs t)) (.cells ds u); rwa [World.size_alloc] at this)⟩
theorem rtake10_arg {owner : Int} (ho : owner < 0 ∨ 8 < owner) (E : Nat) (n a : Nat) (la : Option Addr) (N c : Nat) (va : Nat → Option Addr) (ln vc : Nat → Nat) (w : World) :
    Calls Tryz.prog 15 #[heapV E (.slice la N c) (fun c => .slice (va c) (ln c) (vc c)), .int .i64 owner, .int .u64 n, .int .u64 a] w fun e w' => e = .returned (.tuple #[heapV E (.slice la N c) (fun c => .slice (va c) (ln c) (vc c)), .int .u64 0, .int .i64 1]) ∧ w.grownBy w' none := by
  unfold heapV
  rcases ho with ho | ho
  · go_enter Tryz.func15, Tryz.ntmps15
    go_wp2
    have hb := heap_alloc_new' (w.alloc (.cells #[.int .u64 E, .slice la N c, .slice (va 0) (ln 0) (vc 0), .slice (va 1) (ln 1) (vc 1), .slice (va 2) (ln 2) (vc 2), .slice (va 3) (ln 3) (vc 3), .slice (va 4) (ln 4) (vc 4), .slice (va 5) (ln 5) (vc 5), .slice (va 6) (ln 6) (vc 6), .slice (va 7) (ln 7) (vc 7)] 30)) (.cells #[.int .u64 E, .slice la N c, .slice (va 0) (ln 0) (vc 0), .slice (va 1) (ln 1) (vc 1), .slice (va 2) (ln 2) (vc 2), .slice (va 3) (ln 3) (vc 3), .slice (va 4) (ln 4) (vc 4), .slice (va 5) (ln 5) (vc 5), .slice (va 6) (ln 6) (vc 6), .slice (va 7) (ln 7) (vc 7)] 30)
    have hg := grown_trans (World.grownBy_alloc w (.cells #[.int .u64 E, .slice la N c, .slice (va 0) (ln 0) (vc 0), .slice (va 1) (ln 1) (vc 1), .slice (va 2) (ln 2) (vc 2), .slice (va 3) (ln 3) (vc 3), .slice (va 4) (ln 4) (vc 4), .slice (va 5) (ln 5) (vc 5), .slice (va 6) (ln 6) (vc 6), .slice (va 7) (ln 7) (vc 7)] 30) none) (World.grownBy_alloc (w.alloc (.cells #[.int .u64 E, .slice la N c, .slice (va 0) (ln 0) (vc 0), .slice (va 1) (ln 1) (vc 1), .slice (va 2) (ln 2) (vc 2), .slice (va 3) (ln 3) (vc 3), .slice (va 4) (ln 4) (vc 4), .slice (va 5) (ln 5) (vc 5), .slice (va 6) (ln 6) (vc 6), .slice (va 7) (ln 7) (vc 7)] 30)) (.cells #[.int .u64 E, .slice la N c, .slice (va 0) (ln 0) (vc 0), .slice (va 1) (ln 1) (vc 1), .slice (va 2) (ln 2) (vc 2), .slice (va 3) (ln 3) (vc 3), .slice (va 4) (ln 4) (vc 4), .slice (va 5) (ln 5) (vc 5), .slice (va 6) (ln 6) (vc 6), .slice (va 7) (ln 7) (vc 7)] 30) none)
    rw [World.size_alloc] at hb
    obtain ⟨W, hW⟩ : ∃ W, (w.alloc (.cells #[.int .u64 E, .slice la N c, .slice (va 0) (ln 0) (vc 0), .slice (va 1) (ln 1) (vc 1), .slice (va 2) (ln 2) (vc 2), .slice (va 3) (ln 3) (vc 3), .slice (va 4) (ln 4) (vc 4), .slice (va 5) (ln 5) (vc 5), .slice (va 6) (ln 6) (vc 6), .slice (va 7) (ln 7) (vc 7)] 30)).alloc (.cells #[.int .u64 E, .slice la N c, .slice (va 0) (ln 0) (vc 0), .slice (va 1) (ln 1) (vc 1), .slice (va 2) (ln 2) (vc 2), .slice (va 3) (ln 3) (vc 3), .slice (va 4) (ln 4) (vc 4), .slice (va 5) (ln 5) (vc 5), .slice (va 6) (ln 6) (vc 6), .slice (va 7) (ln 7) (vc 7)] 30) = W := ⟨_, rfl⟩
    rw [hW] at hb hg
    rw [hW]
    obtain ⟨⟨b0, b1, b2, b3, b4, b5, b6, b7, b8, b9⟩, _⟩ := ten_cells hb
    refine bodyPost_ret (v := .tuple #[heapV E (.slice la N c) (fun c => .slice (va c) (ln c) (vc c)), .int .u64 0, .int .i64 1]) (by simp [results, Tryz.results15, go_sem, heapV, b0, b1, b2, b3, b4, b5, b6, b7, b8, b9]) rfl ?_
    exact ⟨rfl, hg⟩
  · have ho' : ¬ owner < 0 := by omega
    go_enter Tryz.func15, Tryz.ntmps15
    go_wp2
    have hb := heap_alloc_new' (w.alloc (.cells #[.int .u64 E, .slice la N c, .slice (va 0) (ln 0) (vc 0), .slice (va 1) (ln 1) (vc 1), .slice (va 2) (ln 2) (vc 2), .slice (va 3) (ln 3) (vc 3), .slice (va 4) (ln 4) (vc 4), .slice (va 5) (ln 5) (vc 5), .slice (va 6) (ln 6) (vc 6), .slice (va 7) (ln 7) (vc 7)] 30)) (.cells #[.int .u64 E, .slice la N c, .slice (va 0) (ln 0) (vc 0), .slice (va 1) (ln 1) (vc 1), .slice (va 2) (ln 2) (vc 2), .slice (va 3) (ln 3) (vc 3), .slice (va 4) (ln 4) (vc 4), .slice (va 5) (ln 5) (vc 5), .slice (va 6) (ln 6) (vc 6), .slice (va 7) (ln 7) (vc 7)] 30)
    have hg := grown_trans (World.grownBy_alloc w (.cells #[.int .u64 E, .slice la N c, .slice (va 0) (ln 0) (vc 0), .slice (va 1) (ln 1) (vc 1), .slice (va 2) (ln 2) (vc 2), .slice (va 3) (ln 3) (vc 3), .slice (va 4) (ln 4) (vc 4), .slice (va 5) (ln 5) (vc 5), .slice (va 6) (ln 6) (vc 6), .slice (va 7) (ln 7) (vc 7)] 30) none) (World.grownBy_alloc (w.alloc (.cells #[.int .u64 E, .slice la N c, .slice (va 0) (ln 0) (vc 0), .slice (va 1) (ln 1) (vc 1), .slice (va 2) (ln 2) (vc 2), .slice (va 3) (ln 3) (vc 3), .slice (va 4) (ln 4) (vc 4), .slice (va 5) (ln 5) (vc 5), .slice (va 6) (ln 6) (vc 6), .slice (va 7) (ln 7) (vc 7)] 30)) (.cells #[.int .u64 E, .slice la N c, .slice (va 0) (ln 0) (vc 0), .slice (va 1) (ln 1) (vc 1), .slice (va 2) (ln 2) (vc 2), .slice (va 3) (ln 3) (vc 3), .slice (va 4) (ln 4) (vc 4), .slice (va 5) (ln 5) (vc 5), .slice (va 6) (ln 6) (vc 6), .slice (va 7) (ln 7) (vc 7)] 30) none)
    rw [World.size_alloc] at hb
    obtain ⟨W, hW⟩ : ∃ W, (w.alloc (.cells #[.int .u64 E, .slice la N c, .slice (va 0) (ln 0) (vc 0), .slice (va 1) (ln 1) (vc 1), .slice (va 2) (ln 2) (vc 2), .slice (va 3) (ln 3) (vc 3), .slice (va 4) (ln 4) (vc 4), .slice (va 5) (ln 5) (vc 5), .slice (va 6) (ln 6) (vc 6), .slice (va 7) (ln 7) (vc 7)] 30)).alloc (.cells #[.int .u64 E, .slice la N c, .slice (va 0) (ln 0) (vc 0), .slice (va 1) (ln 1) (vc 1), .slice (va 2) (ln 2) (vc 2), .slice (va 3) (ln 3) (vc 3), .slice (va 4) (ln 4) (vc 4), .slice (va 5) (ln 5) (vc 5), .slice (va 6) (ln 6) (vc 6), .slice (va 7) (ln 7) (vc 7)] 30) = W := ⟨_, rfl⟩
    rw [hW] at hb hg
    rw [hW]
    obtain ⟨⟨b0, b1, b2, b3, b4, b5, b6, b7, b8, b9⟩, _⟩ := ten_cells hb
    refine bodyPost_ret (v := .tuple #[heapV E (.slice la N c) (fun c => .slice (va c) (ln c) (vc c)), .int .u64 0, .int .i64 1]) (by simp [results, Tryz.results15, go_sem, heapV, b0, b1, b2, b3, b4, b5, b6, b7, b8, b9]) rfl ?_
    exact ⟨rfl, hg⟩
set_option maxHeartbeats 4000000 in
theorem rtake10_fit {owner : Int} (h0 : 0 ≤ owner) (h8 : owner ≤ 8) (E : Nat) (n a : Nat) (la : Option Addr) (N c : Nat) (va : Nat → Option Addr) (ln vc : Nat → Nat) (w : World) {bad : Nat} (hbad : 0 < bad) (hfit : ∀ V : World, w.grownBy V none → Calls Tryz.prog 12 #[heapV E (.slice la N c) (fun c => .slice (va c) (ln c) (vc c)), .int .u64 n, .int .u64 a] V fun e w' => e = .returned (.tuple #[.int .i64 0, .int .u64 0, .int .u64 0, .int .i64 bad]) ∧ V.grownBy w' none) :
    Calls Tryz.prog 15 #[heapV E (.slice la N c) (fun c => .slice (va c) (ln c) (vc c)), .int .i64 owner, .int .u64 n, .int .u64 a] w fun e w' => e = .returned (.tuple #[heapV E (.slice la N c) (fun c => .slice (va c) (ln c) (vc c)), .int .u64 0, .int .i64 bad]) ∧ w.grownBy w' none := by
  have o1 : ¬ owner < 0 := by omega
  have o2 : ¬ 8 < owner := by omega
  have hb0 : ((bad : Int) != 0) = true := by simp; omega
  unfold heapV at hfit ⊢
  clear hbad h0 h8
  go_enter Tryz.func15, Tryz.ntmps15
  go_wp2_with (go_at_call 12; go_must ((with_reducible refine (hfit _ (grown_trans (World.grownBy_alloc _ _ _) (World.grownBy_alloc _ _ _))).mono ?_); rintro e w1 ⟨rfl, hg1⟩; obtain ⟨hx1, hG1, hr1⟩ := take_box hg1; obtain ⟨⟨y0, y1, y2, y3, y4, y5, y6, y7, y8, y9⟩, _⟩ := ten_cells hx1; obtain ⟨_, rf⟩ := ten_cells hr1; have rf0 := rf 0 (by decide); have rf1 := rf 1 (by decide); have rf2 := rf 2 (by decide); have rf3 := rf 3 (by decide); have rf4 := rf 4 (by decide); have rf5 := rf 5 (by decide); have rf6 := rf 6 (by decide); have rf7 := rf 7 (by decide); have rf8 := rf 8 (by decide); have rf9 := rf 9 (by decide)))
  obtain ⟨P11, Q11⟩ := ten_put (y0 := .int .u64 E) (y1 := .slice la N c) (y2 := .slice (va 0) (ln 0) (vc 0)) (y3 := .slice (va 1) (ln 1) (vc 1)) (y4 := .slice (va 2) (ln 2) (vc 2)) (y5 := .slice (va 3) (ln 3) (vc 3)) (y6 := .slice (va 4) (ln 4) (vc 4)) (y7 := .slice (va 5) (ln 5) (vc 5)) (y8 := .slice (va 6) (ln 6) (vc 6)) (y9 := .slice (va 7) (ln 7) (vc 7)) hr1
  obtain ⟨W11, hW11⟩ : ∃ W11, ((((((((((w1.setCell ⟨w.heap.size + 1, 0, none⟩ (.int .u64 E)).setCell ⟨w.heap.size + 1, 1, none⟩ (.slice la N c)).setCell ⟨w.heap.size + 1, 2, none⟩ (.slice (va 0) (ln 0) (vc 0))).setCell ⟨w.heap.size + 1, 3, none⟩ (.slice (va 1) (ln 1) (vc 1))).setCell ⟨w.heap.size + 1, 4, none⟩ (.slice (va 2) (ln 2) (vc 2))).setCell ⟨w.heap.size + 1, 5, none⟩ (.slice (va 3) (ln 3) (vc 3))).setCell ⟨w.heap.size + 1, 6, none⟩ (.slice (va 4) (ln 4) (vc 4))).setCell ⟨w.heap.size + 1, 7, none⟩ (.slice (va 5) (ln 5) (vc 5))).setCell ⟨w.heap.size + 1, 8, none⟩ (.slice (va 6) (ln 6) (vc 6))).setCell ⟨w.heap.size + 1, 9, none⟩ (.slice (va 7) (ln 7) (vc 7))) = W11 := ⟨_, rfl⟩
  rw [hW11] at P11 Q11 ⊢
  have G12 := grown_new (grown_trans (grown_any hG1 _) Q11) (Nat.le_succ _)
  obtain ⟨⟨b0, b1, b2, b3, b4, b5, b6, b7, b8, b9⟩, _⟩ := ten_cells P11
  refine bodyPost_ret (v := .tuple #[heapV E (.slice la N c) (fun c => .slice (va c) (ln c) (vc c)), .int .u64 0, .int .i64 bad]) (by simp [results, Tryz.results15, go_sem, heapV, b0, b1, b2, b3, b4, b5, b6, b7, b8, b9]) rfl ?_
  exact ⟨rfl, G12⟩
theorem rtake10_who {w : World} {base : Nat} {v : Value} {E : Nat} {bs : List Blk} {L : Nat → List Nat} (h : HvIs w base v E bs L) (n a : Nat) {owner : Int} (ho : owner < 0 ∨ 8 < owner) :
    Calls Tryz.prog 15 #[v, .int .i64 owner, .int .u64 n, .int .u64 a] w fun x w' => x = .returned (.tuple #[v, .int .u64 0, .int .i64 1]) ∧ w.grownBy w' none := by
  obtain ⟨b, vs, rfl, hb, hl0⟩ := h.is
  obtain ⟨va, ln, vc, hvv, _, _⟩ := heap_lie (E := E) (b := b) hl0
  obtain ⟨la, c, rfl, _⟩ := hb.at_
  rw [hvv]
  exact rtake10_arg ho E n a la _ c va ln vc w
theorem rtake10_bad {w : World} {base : Nat} {v : Value} {E : Nat} {bs : List Blk} {L : Nat → List Nat} (h : HvIs w base v E bs L) (hlen : bs.length ≤ 1000) (hbd : Bounds bs) {n a : Nat} (hn : n < 18446744073709551616) (ha : a < 18446744073709551616) {owner : Int} (h0 : 0 ≤ owner) (h8 : owner ≤ 8) {e : Nat} (he : fitErr bs n a = e) (hp : 0 < e) :
    Calls Tryz.prog 15 #[v, .int .i64 owner, .int .u64 n, .int .u64 a] w fun x w' => x = .returned (.tuple #[v, .int .u64 0, .int .i64 e]) ∧ w.grownBy w' none := by
  have hfit : ∀ V : World, w.grownBy V none → Calls Tryz.prog 12 #[v, .int .u64 n, .int .u64 a] V fun x w' => x = .returned (.tuple #[.int .i64 0, .int .u64 0, .int .u64 0, .int .i64 e]) ∧ V.grownBy w' none := by
    intro V hg
    unfold fitErr at he
    by_cases h1 : alignP a
    · rw [if_neg (fun q => q h1)] at he
      by_cases h2 : 18446744073709551560 < n
      · rw [if_pos h2] at he
        subst he
        obtain ⟨b, vs, rfl, _, _⟩ := h.is
        exact rfit10_size h1 h2 hn E b vs V
      · rw [if_neg h2] at he
        by_cases h3 : fitM bs n a = none
        · rw [if_pos h3] at he
          subst he
          have := rfit10_any (h.later hg) hlen hbd h1 (by omega : n ≤ 18446744073709551560)
          rwa [h3] at this
        · rw [if_neg h3] at he
          omega
    · rw [if_pos h1] at he
      subst he
      obtain ⟨b, vs, rfl, _, _⟩ := h.is
      exact rfit10_arg ha h1 E n b vs V
  obtain ⟨b, vs, rfl, hb, hl0⟩ := h.is
  obtain ⟨va, ln, vc, hvv, _, _⟩ := heap_lie (E := E) (b := b) hl0
  obtain ⟨la, c, rfl, _⟩ := hb.at_
  rw [hvv] at hfit ⊢
  exact rtake10_fit h0 h8 E n a la _ c va ln vc w hp hfit
end Go.Proofs.YtoamlkljfmgomaaGreat
