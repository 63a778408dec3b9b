/-
  Texts of one layer, one behind the other: memory, contracts of the functions, and what follows of them.
  Conditions: as each theorem says.
-/
import Derived.Test.YtcngmkfpbcemjaaGreatLCae
import Derived.Test.YtcngmkfpbcemjaaGreatCarP
import Derived.Test.YtcngmkfpbcemjaaGreatCarIa
import Derived.Test.YtcngmkfpbcemjaaGreatCarIb
import Derived.Test.YtcngmkfpbcemjaaGreatCarIc
import Derived.Test.YtcngmkfpbcemjaaGreatCarId
import Derived.Test.YtcngmkfpbcemjaaGreatLTrk
import Derived.Test.YtcngmkfpbcemjaaGreatLClb
set_option linter.unusedVariables false
set_option linter.unusedSimpArgs false
namespace Go.Proofs.YtcngmkfpbcemjaaGreat
open Go.RowKit
set_option maxRecDepth 100000
theorem take_box {w : World} {cs ds : Array Value} {t u : TypeId} {V : World} (hg : ((w.alloc (.cells cs t)).alloc (.cells ds u)).grownBy V none) :
    V.heap[w.heap.size]? = some (.cells cs t (0, 0)) ∧ w.grownBy V none ∧ V.heap[w.heap.size + 1]? = some (.cells ds u (0, 0)) :=
  ⟨(hg.block w.heap.size (by simp; omega) (by simp)).trans ((Below.heap_alloc _ _ _ (by simp)).trans (heap_alloc_new' w (.cells cs t))), grown_trans (World.grownBy_alloc _ _ _) (grown_trans (World.grownBy_alloc _ _ _) hg), (hg.block (w.heap.size + 1) (by simp) (by simp)).trans (by have := heap_alloc_new' (w.alloc (.cells cs t)) (.cells ds u); rwa [World.size_alloc] at this)⟩
set_option maxHeartbeats 4000000 in
theorem rtake10_fit {owner : Int} (h0 : 0 ≤ owner) (h8 : owner ≤ 8) (E : Nat) (n a : Nat) (la : Option Addr) (N c : Nat) (va : Nat → Option Addr) (ln vc : Nat → Nat) (w : World) {bad : Nat} (hbad : 0 < bad) (hfit : ∀ V : World, w.grownBy V none → Calls Tryz.prog 102 #[heapV E (.slice la N c) (fun c => .slice (va c) (ln c) (vc c)), .int .u64 n, .int .u64 a] V fun e w' => e = .returned (.tuple #[.int .i64 0, .int .u64 0, .int .u64 0, .int .i64 bad]) ∧ V.grownBy w' none) :
    Calls Tryz.prog 60 #[heapV E (.slice la N c) (fun c => .slice (va c) (ln c) (vc c)), .int .i64 owner, .int .u64 n, .int .u64 a] w fun e w' => e = .returned (.tuple #[heapV E (.slice la N c) (fun c => .slice (va c) (ln c) (vc c)), .int .u64 0, .int .i64 bad]) ∧ w.grownBy w' none := by
  have o1 : ¬ owner < 0 := by omega
  have o2 : ¬ 8 < owner := by omega
  have hb0 : ((bad : Int) != 0) = true := by simp; omega
  unfold heapV at hfit ⊢
  clear hbad h0 h8
  go_enter Tryz.func60, Tryz.ntmps60
  go_wp2_with (go_at_call 102; go_must ((with_reducible refine (hfit _ (grown_trans (World.grownBy_alloc _ _ _) (World.grownBy_alloc _ _ _))).mono ?_); rintro e w1 ⟨rfl, hg1⟩; obtain ⟨hx1, hG1, hr1⟩ := take_box hg1; obtain ⟨⟨y0, y1, y2, y3, y4, y5, y6, y7, y8, y9⟩, _⟩ := ten_cells hx1; obtain ⟨_, rf⟩ := ten_cells hr1; have rf0 := rf 0 (by decide); have rf1 := rf 1 (by decide); have rf2 := rf 2 (by decide); have rf3 := rf 3 (by decide); have rf4 := rf 4 (by decide); have rf5 := rf 5 (by decide); have rf6 := rf 6 (by decide); have rf7 := rf 7 (by decide); have rf8 := rf 8 (by decide); have rf9 := rf 9 (by decide)))
  obtain ⟨P11, Q11⟩ := ten_put (y0 := .int .u64 E) (y1 := .slice la N c) (y2 := .slice (va 0) (ln 0) (vc 0)) (y3 := .slice (va 1) (ln 1) (vc 1)) (y4 := .slice (va 2) (ln 2) (vc 2)) (y5 := .slice (va 3) (ln 3) (vc 3)) (y6 := .slice (va 4) (ln 4) (vc 4)) (y7 := .slice (va 5) (ln 5) (vc 5)) (y8 := .slice (va 6) (ln 6) (vc 6)) (y9 := .slice (va 7) (ln 7) (vc 7)) hr1
  obtain ⟨W11, hW11⟩ : ∃ W11, ((((((((((w1.setCell ⟨w.heap.size + 1, 0, none⟩ (.int .u64 E)).setCell ⟨w.heap.size + 1, 1, none⟩ (.slice la N c)).setCell ⟨w.heap.size + 1, 2, none⟩ (.slice (va 0) (ln 0) (vc 0))).setCell ⟨w.heap.size + 1, 3, none⟩ (.slice (va 1) (ln 1) (vc 1))).setCell ⟨w.heap.size + 1, 4, none⟩ (.slice (va 2) (ln 2) (vc 2))).setCell ⟨w.heap.size + 1, 5, none⟩ (.slice (va 3) (ln 3) (vc 3))).setCell ⟨w.heap.size + 1, 6, none⟩ (.slice (va 4) (ln 4) (vc 4))).setCell ⟨w.heap.size + 1, 7, none⟩ (.slice (va 5) (ln 5) (vc 5))).setCell ⟨w.heap.size + 1, 8, none⟩ (.slice (va 6) (ln 6) (vc 6))).setCell ⟨w.heap.size + 1, 9, none⟩ (.slice (va 7) (ln 7) (vc 7))) = W11 := ⟨_, rfl⟩
  rw [hW11] at P11 Q11 ⊢
  have G12 := grown_new (grown_trans (grown_any hG1 _) Q11) (Nat.le_succ _)
  obtain ⟨⟨b0, b1, b2, b3, b4, b5, b6, b7, b8, b9⟩, _⟩ := ten_cells P11
  refine bodyPost_ret (v := .tuple #[heapV E (.slice la N c) (fun c => .slice (va c) (ln c) (vc c)), .int .u64 0, .int .i64 bad]) (by simp [results, Tryz.results60, go_sem, heapV, b0, b1, b2, b3, b4, b5, b6, b7, b8, b9]) rfl ?_
  exact ⟨rfl, G12⟩
theorem rtake10_bad {w : World} {base : Nat} {v : Value} {E : Nat} {bs : List Blk} {L : Nat → List Nat} (h : HvIs w base v E bs L) (hlen : bs.length ≤ 1000) (hbd : Bounds bs) {n a : Nat} (hn : n < 18446744073709551616) (ha : a < 18446744073709551616) {owner : Int} (h0 : 0 ≤ owner) (h8 : owner ≤ 8) {e : Nat} (he : fitErr bs n a = e) (hp : 0 < e) :
    Calls Tryz.prog 60 #[v, .int .i64 owner, .int .u64 n, .int .u64 a] w fun x w' => x = .returned (.tuple #[v, .int .u64 0, .int .i64 e]) ∧ w.grownBy w' none := by
  have hfit : ∀ V : World, w.grownBy V none → Calls Tryz.prog 102 #[v, .int .u64 n, .int .u64 a] V fun x w' => x = .returned (.tuple #[.int .i64 0, .int .u64 0, .int .u64 0, .int .i64 e]) ∧ V.grownBy w' none := by
    intro V hg
    unfold fitErr at he
    by_cases h1 : alignP a
    · rw [if_neg (fun q => q h1)] at he
      by_cases h2 : 18446744073709551560 < n
      · rw [if_pos h2] at he
        subst he
        obtain ⟨b, vs, rfl, _, _⟩ := h.is
        exact rfit10_size h1 h2 hn E b vs V
      · rw [if_neg h2] at he
        by_cases h3 : fitM bs n a = none
        · rw [if_pos h3] at he
          subst he
          have := rfit10_any (h.later hg) hlen hbd h1 (by omega : n ≤ 18446744073709551560)
          rwa [h3] at this
        · rw [if_neg h3] at he
          omega
    · rw [if_pos h1] at he
      subst he
      obtain ⟨b, vs, rfl, _, _⟩ := h.is
      exact rfit10_arg ha h1 E n b vs V
  obtain ⟨b, vs, rfl, hb, hl0⟩ := h.is
  obtain ⟨va, ln, vc, hvv, _, _⟩ := heap_lie (E := E) (b := b) hl0
  obtain ⟨la, c, rfl, _⟩ := hb.at_
  rw [hvv] at hfit ⊢
  exact rtake10_fit h0 h8 E n a la _ c va ln vc w hp hfit
end Go.Proofs.YtcngmkfpbcemjaaGreat
namespace Go.Proofs.YtcngmkfpbcemjaaGreat
open Go.RowKit Go.Shelf
set_option maxRecDepth 100000
attribute [local go_sem] Oper.semAt_some
set_option maxHeartbeats 4000000 in
theorem cfit_size {n a : Nat} (ha : alignP a) (hn : 18446744073709551560 < n) (hn64 : n < 18446744073709551616) (p : Option Addr) (w : World) :
    Calls Tryz.prog 43 #[.pointer p, .int .u64 n, .int .u64 a] w fun e w' => e = .returned (.tuple #[.agg #[.int .u64 0, .int .u64 0, .int .u64 0], .int .i64 2]) ∧ w.grownBy w' none := by
  refine (callsIn_wide (n := 6)).1 ?_
  have hal := ha.le
  have h1 := (ones_align (by omega) hal.1 hal.2.1).2 ha
  have hon : ∀ V, CallsIn Fence.wide 5 Tryz.prog 78 #[.int .u64 a] V _ := fun V => (callsIn_wide (n := 5)).2 (ones_any a (by omega) V)
  have hne : ∀ V, CallsIn Fence.wide 5 Tryz.prog 67 #[.int .u64 n] V _ := fun V => (callsIn_wide (n := 5)).2 (need_high n hn64 (by omega) V)
  have hb : (onesOf (a : Int) != 1) = false := by rw [h1]; rfl
  have hb' : ¬ onesOf (a : Int) ≠ 1 := fun h => h h1
  have h16 : ¬ (a : Int) < 16 := by omega
  have h4 : ¬ 4096 < (a : Int) := by omega
  refine callsIn_of_wp_marks Tryz.func43 rfl trivial ?_ rfl
  simp only [Tryz.ntmps43, List.size_toArray, List.length_cons, List.length_nil, Nat.reduceAdd, Nat.reduceSub, Array.replicate_succ, Array.replicate_zero, List.push_toArray, List.append_toArray, List.nil_append, List.cons_append]
  gi_wp2_with (first | (refine ⟨trivial, ?_⟩; gi_at_call 78; (with_reducible refine (hon _).mono ?_); rintro e w1 ⟨rfl, rfl⟩) | (refine ⟨trivial, ?_⟩; gi_at_call 67; (with_reducible refine (hne _).mono ?_); rintro e w1 ⟨rfl, rfl⟩))
  obtain ⟨b0, b1, b2, hg⟩ := fit_box w (.int .u64 a) (.int .u64 0) (.int .u64 0) (.int .u64 0) (.int .i64 2) 23 95 34
  obtain ⟨W, hW⟩ : ∃ W, ((w.alloc (.cells #[.int .u64 a] 23)).alloc (.cells #[.int .u64 0, .int .u64 0, .int .u64 0] 95)).alloc (.cells #[.int .i64 2] 34) = W := ⟨_, rfl⟩
  rw [hW] at b0 b1 b2 hg ⊢
  have hga := World.grownBy_alloc W (.cells #[.int .u64 0] 23) none
  obtain ⟨c0, c1, c2⟩ := tag_cells ((hga.block _ (lt_of_block b1) (by simp)).trans b1)
  have c3 := cell_of_one ((hga.block _ (lt_of_block b2) (by simp)).trans b2)
  refine ⟨.tuple #[.agg #[.int .u64 0, .int .u64 0, .int .u64 0], .int .i64 2], ?_, rfl, grown_trans hg hga⟩
  simp [results, Tryz.results43, go_sem, c0, c1, c2, c3]
end Go.Proofs.YtcngmkfpbcemjaaGreat
namespace Go.Proofs.YtcngmkfpbcemjaaGreat
open Go.RowKit
theorem heapV_cap {E : Nat} {la la' : Option Addr} {N N' c c' : Nat} {vs vs' : Nat → Value} (e : heapV E (.slice la N c) vs = heapV E (.slice la' N' c') vs') : c' = c := by
  unfold heapV at e
  simp only [Value.agg.injEq, Array.mk.injEq, List.cons.injEq, Value.slice.injEq] at e
  exact e.2.1.2.2.symm
theorem rtake10_ok {w : World} {base : Nat} {v : Value} {E : Nat} {bs : List Blk} {L : Nat → List Nat} (h : HvIs w base v E bs L) (hbw : base ≤ w.heap.size) (hlen : bs.length ≤ 1000) (hbd : Bounds bs) {n a i owner : Nat} (ha : alignP a) (hn : n ≤ 18446744073709551560) (how : owner ≤ 8) (hfi : fitM bs n a = some i) (hL : ∀ c, (L c).length ≤ 1000) :
    Calls Tryz.prog 60 #[v, .int .i64 owner, .int .u64 n, .int .u64 a] w fun e w' => ∃ v', e = .returned (.tuple #[v', .int .u64 (gO bs i + padN (gO bs i) a + 32 : Nat), .int .i64 0]) ∧ HvIs w' base v' E (takeB bs i (padN (gO bs i) a) (needOf n) owner n) (takeL L owner (gO bs i + padN (gO bs i) a)) ∧ RowsOf v v' w.heap.size ∧ w.grownBy w' none := by
  obtain ⟨b, vs, hv, hb, _⟩ := h.is
  obtain ⟨la, c, hbe, _⟩ := hb.at_
  rw [hbe] at hv
  have hc : ∀ la' N' c' vs', v = heapV E (.slice la' N' c') vs' → c' = c := fun la' N' c' vs' e => heapV_cap (hv.symm.trans e)
  by_cases h0 : owner = 0
  · by_cases hci : i + 1 < c
    · exact rtake10_more0 h hbw hlen hbd ha hn how hfi hL (fun la' N' c' vs' e => by rw [hc _ _ _ _ e]; exact hci) h0
    · exact rtake10_last0 h hbw hlen hbd ha hn how hfi hL (fun la' N' c' vs' e => by rw [hc _ _ _ _ e]; omega) h0
  · by_cases hci : i + 1 < c
    · exact rtake10_more h hbw hlen hbd ha hn how hfi hL (fun la' N' c' vs' e => by rw [hc _ _ _ _ e]; exact hci) h0
    · exact rtake10_last h hbw hlen hbd ha hn how hfi hL (fun la' N' c' vs' e => by rw [hc _ _ _ _ e]; omega) h0
end Go.Proofs.YtcngmkfpbcemjaaGreat
namespace Go.Proofs.YtcngmkfpbcemjaaGreat
open Go.RowKit
theorem drop_getX {l : List Nat} {k y : Nat} (hk : k < l.length) (hy : l.getD k 0 = y) : y :: l.drop (k + 1) = l.drop k := by
  rw [List.getD_eq_getElem?_getD, List.getElem?_eq_getElem hk] at hy
  rw [List.drop_eq_getElem_cons hk]
  simp at hy
  rw [hy]
theorem gtx_next {z : Nat → Nat} {S : List Nat} {k : Nat} (hr : Rising z S) (hk : k < S.length) : gtL z (z (S.getD k 0)) (S.getD k 0) S = S.drop (k + 1) := by
  obtain ⟨y, hy⟩ : ∃ y, S.getD k 0 = y := ⟨_, rfl⟩
  rw [hy]
  have h1 : S = S.take k ++ y :: S.drop (k + 1) := by rw [drop_getX hk hy, List.take_append_drop]
  have h2 : Rising z (S.take k ++ y :: S.drop (k + 1)) := by rw [← h1]; exact hr
  have h3 := List.pairwise_append.1 h2
  have h4 := List.pairwise_cons.1 h3.2.1
  unfold gtL
  conv => lhs; rw [h1]
  rw [List.filter_append, List.filter_cons, if_neg (by unfold ltK; simp), List.filter_eq_nil_iff.2, List.nil_append, List.filter_eq_self.2]
  · intro x hx
    have h5 := h4.1 x hx
    rw [decide_eq_true_eq]
    unfold blkLt keyLt at h5
    unfold ltK
    omega
  · intro x hx
    have h5 := h3.2.2 x hx y (by simp)
    rw [decide_eq_true_eq]
    unfold blkLt keyLt at h5
    unfold ltK
    omega
theorem gtx_sub {z : Nat → Nat} {S : List Nat} {s o x : Nat} (hx : ltK s o (z x) x) : gtL z (z x) x S = gtL z (z x) x (gtL z s o S) := by
  unfold gtL
  rw [List.filter_filter]
  apply List.filter_congr
  intro y _
  rw [Bool.eq_iff_iff]
  simp only [Bool.and_eq_true, decide_eq_true_eq]
  constructor
  · intro h
    refine ⟨h, ?_⟩
    unfold ltK at *
    omega
  · exact fun h => h.1
theorem getD_drop1 {l : List Nat} {k : Nat} : (l.drop (k + 1)).getD 0 0 = l.getD (k + 1) 0 := by
  rw [List.getD_eq_getElem?_getD, List.getD_eq_getElem?_getD, List.getElem?_drop]
theorem few_lone {ls : List Nat} (h : Lone ls) : ls.length ≤ 4800 := few_places 4800 ls h.nodup fun x hx => by have := h.on x hx; omega
section
variable {w : World} {T M : Nat} {R : Option Nat} {B D : Nat} {ws : List Nat} {l : List (Nat × Nat)} {ls : List Nat} {bs : List Blk} {E : Nat}
theorem hung_after (h : Thinks w T M R B D ws l) (hws : 8 * ws.length = 4800) (hH : Hung (txSee ws l) ls) (s o : Nat) :
    Calls Tryz.prog 121 #[.pointer (some ⟨T, 0, none⟩), .int .u64 s, .int .u64 o] w fun e w' => e = .returned (.tuple #[.int .u64 ((gtL (fun x => tS (txSee ws l x)) s o (srtK (fun x => tS (txSee ws l x)) ls)).getD 0 0 : Nat), .bool (decide (0 < (gtL (fun x => tS (txSee ws l x)) s o (srtK (fun x => tS (txSee ws l x)) ls)).length))]) ∧ w.grownBy w' none := by
  have hG := hH.lone.free
  have hI := hH.is hG (fun x hx => upL_mem.2 hx)
  have hB : Bed ws l (fun x => tS (txSee ws l x)) (upL ls) := ⟨hG, hws, fun _ _ => rfl⟩
  exact tafter_any h hB hI.tame hI.tree (by rw [srtK_length]; have := few_lone hH.lone; omega) s o
def bigL (f : Nat → Nat) (ls : List Nat) (need : Nat) : List Nat := gtL (fun x => tS (f x)) need 0 (srtK (fun x => tS (f x)) ls)
theorem bigL_mem {f : Nat → Nat} {need x : Nat} (h0 : ∀ y ∈ ls, 0 < y) : x ∈ bigL f ls need ↔ x ∈ ls ∧ need ≤ tS (f x) := by
  unfold bigL gtL
  rw [List.mem_filter, srtK_mem, decide_eq_true_eq]
  constructor
  · rintro ⟨h1, h2⟩
    refine ⟨h1, ?_⟩
    unfold ltK at h2
    dsimp only at h2
    omega
  · rintro ⟨h1, h2⟩
    refine ⟨h1, ?_⟩
    have := h0 x h1
    unfold ltK
    dsimp only
    omega
theorem bigL_rising {f : Nat → Nat} {need : Nat} (hn : ls.Nodup) : Rising (fun x => tS (f x)) (bigL f ls need) := (srtK_rising hn).filter _
theorem index_mu {xs : List Nat} (hn : xs.Nodup) (h0 : ∀ y ∈ xs, 0 < y) : ∃ mu : Nat → Nat, ∀ k, k ≤ xs.length → mu (xs.getD k 0) = xs.length - k := by
  refine ⟨fun v => xs.length - xs.idxOf v, fun k hk => ?_⟩
  dsimp only
  rcases Nat.lt_or_ge k xs.length with h | h
  · rw [List.getD_eq_getElem?_getD, List.getElem?_eq_getElem h]
    simp only [Option.getD_some]
    rw [hn.idxOf_getElem]
  · have e : xs.getD k 0 = 0 := by rw [List.getD_eq_getElem?_getD, List.getElem?_eq_none (by omega)]; rfl
    rw [e, List.idxOf_eq_length fun hm => absurd (h0 0 hm) (by decide)]
    omega
theorem free_tells (h : Thinks w T M R B D ws l) (hws : 8 * ws.length = 4800) (hH : Hung (txSee ws l) ls) (need : Nat) :
    FreeT w (.pointer (some ⟨T, 0, none⟩)) need (bigL (txSee ws l) ls need) (fun x => tS (txSee ws l x)) := by
  have h0 : ∀ y ∈ ls, 0 < y := fun y hy => by have := hH.lone.on y hy; omega
  have hr := bigL_rising (f := txSee ws l) (need := need) hH.lone.nodup
  have hm : ∀ k, k < (bigL (txSee ws l) ls need).length → (bigL (txSee ws l) ls need).getD k 0 ∈ bigL (txSee ws l) ls need := fun k hk => by
    rw [List.getD_eq_getElem?_getD, List.getElem?_eq_getElem hk]
    exact List.getElem_mem _
  refine ⟨fun V hg => hung_after (h.later hg) hws hH need 0, fun V k hg hk => ?_, fun V k hg hk => ?_, ?_, index_mu hr.nodup fun y hy => h0 y ((bigL_mem h0).1 hy).1⟩
  · have := hH.lone.on _ ((bigL_mem h0).1 (hm k hk)).1
    exact csize_any (h.later hg) _ (by omega)
  · have hx := (bigL_mem h0).1 (hm k hk)
    have := hung_after (h.later hg) hws hH (tS (txSee ws l ((bigL (txSee ws l) ls need).getD k 0))) ((bigL (txSee ws l) ls need).getD k 0)
    have hlt : ltK need 0 (tS (txSee ws l ((bigL (txSee ws l) ls need).getD k 0))) ((bigL (txSee ws l) ls need).getD k 0) := by
      have := h0 _ hx.1
      unfold ltK
      omega
    have e1 := gtx_sub (z := fun x => tS (txSee ws l x)) (S := srtK (fun x => tS (txSee ws l x)) ls) hlt
    have e2 : gtL (fun x => tS (txSee ws l x)) (tS (txSee ws l ((bigL (txSee ws l) ls need).getD k 0))) ((bigL (txSee ws l) ls need).getD k 0) (srtK (fun x => tS (txSee ws l x)) ls) = (bigL (txSee ws l) ls need).drop (k + 1) := e1.trans (gtx_next hr hk)
    rw [e2, getD_drop1, List.length_drop] at this
    have e3 : decide (0 < (bigL (txSee ws l) ls need).length - (k + 1)) = decide (k + 1 < (bigL (txSee ws l) ls need).length) := by rw [Bool.eq_iff_iff, decide_eq_true_eq, decide_eq_true_eq]; omega
    rw [e3] at this
    exact this
  · have := few_lone hH.lone
    have h2 : (bigL (txSee ws l) ls need).length ≤ (srtK (fun x => tS (txSee ws l x)) ls).length := List.length_filter_le _ _
    rw [srtK_length] at h2
    omega
theorem Told.rise {f : Nat → Nat} {o e : Nat} (h : Told f E o bs e) {i j : Nat} (hij : i < j) (hj : j < bs.length) : (bs.getD i default).off < (bs.getD j default).off := by
  have hp := List.pairwise_iff_getElem.1 h.apart i j (by omega) hj hij
  have hs := (h.is _ (List.getElem_mem (show i < bs.length by omega))).size
  rw [List.getD_eq_getElem?_getD, List.getD_eq_getElem?_getD, List.getElem?_eq_getElem hj, List.getElem?_eq_getElem (show i < bs.length by omega)]
  simp only [Option.getD_some]
  omega
theorem getB_mem {i : Nat} (hi : i < bs.length) : bs.getD i default ∈ bs := by
  rw [List.getD_eq_getElem?_getD, List.getElem?_eq_getElem hi]
  exact List.getElem_mem _
theorem freesB_at {x : Nat} : x ∈ freesB bs ↔ ∃ i, i < bs.length ∧ (bs.getD i default).u = false ∧ (bs.getD i default).off = x := by
  rw [freesB_mem]
  constructor
  · rintro ⟨b, hb, hu, ho⟩
    obtain ⟨i, hi, rfl⟩ := List.mem_iff_getElem.1 hb
    refine ⟨i, hi, ?_⟩
    rw [List.getD_eq_getElem?_getD, List.getElem?_eq_getElem hi]
    exact ⟨hu, ho⟩
  · rintro ⟨i, hi, hu, ho⟩
    exact ⟨_, getB_mem hi, hu, ho⟩
theorem best_of {f : Nat → Nat} (hF : HeapF f E bs) {need a : Nat} {e : Ending} (hf : FitT (fun k => (bigL f (freesB bs) need).getD k 0) (fun k => szAt (fun x => tS (f x)) (bigL f (freesB bs) need) k) (bigL f (freesB bs) need).length need a e) :
    (∃ i, bestK (fitB need a) bs bs.length = some i ∧ e = .returned (.tuple #[.agg #[.int .u64 ((bs.getD i default).off : Nat), .int .u64 (padN (bs.getD i default).off a : Nat), .int .u64 need], .int .i64 0])) ∨ (bestK (fitB need a) bs bs.length = none ∧ e = .returned (.tuple #[.agg #[.int .u64 0, .int .u64 0, .int .u64 0], .int .i64 3])) := by
  have h0 : ∀ y ∈ freesB bs, 0 < y := fun y hy => by have := hF.freeL.on y hy; omega
  have hr := bigL_rising (f := f) (need := need) hF.freeL.nodup
  have hmem := fun x => bigL_mem (f := f) (need := need) (x := x) h0
  obtain ⟨xs, hxs⟩ : ∃ xs, bigL f (freesB bs) need = xs := ⟨_, rfl⟩
  rw [hxs] at hf hr hmem
  have hkey : ∀ i, i < bs.length → (bs.getD i default).u = false → tS (f (bs.getD i default).off) = (bs.getD i default).s := fun i hi hu => (hF.told.is _ (getB_mem hi)).key
  have hat : ∀ k, k < xs.length → ∃ i, i < bs.length ∧ (bs.getD i default).u = false ∧ (bs.getD i default).off = xs.getD k 0 ∧ need ≤ (bs.getD i default).s ∧ szAt (fun x => tS (f x)) xs k = (bs.getD i default).s := fun k hk => by
    have hm : xs.getD k 0 ∈ xs := by
      rw [List.getD_eq_getElem?_getD, List.getElem?_eq_getElem hk]
      exact List.getElem_mem _
    obtain ⟨h1, h2⟩ := (hmem _).1 hm
    obtain ⟨i, hi, hu, ho⟩ := freesB_at.1 h1
    have hk' := hkey i hi hu
    rw [ho] at hk'
    refine ⟨i, hi, hu, ho, by omega, ?_⟩
    unfold szAt
    rw [if_pos hk]
    exact hk'
  have hto : ∀ j, j < bs.length → fitB need a (bs.getD j default) = true → ∃ k, k < xs.length ∧ xs.getD k 0 = (bs.getD j default).off ∧ padN (xs.getD k 0) a + need ≤ szAt (fun x => tS (f x)) xs k := fun j hj hp => by
    unfold fitB at hp
    simp only [Bool.and_eq_true, Bool.not_eq_true', decide_eq_true_eq] at hp
    obtain ⟨⟨p1, p2⟩, p3⟩ := hp
    have hk' := hkey j hj p1
    have hm : (bs.getD j default).off ∈ xs := (hmem _).2 ⟨freesB_at.2 ⟨j, hj, p1, rfl⟩, by omega⟩
    obtain ⟨k, hk, e⟩ := List.mem_iff_getElem.1 hm
    have e' : xs.getD k 0 = (bs.getD j default).off := by rw [List.getD_eq_getElem?_getD, List.getElem?_eq_getElem hk]; exact e
    refine ⟨k, hk, e', ?_⟩
    unfold szAt
    rw [if_pos hk, e']
    dsimp only
    rw [hk']
    omega
  unfold FitT at hf
  dsimp only at hf
  rcases hf with ⟨k, hk, hok, hno, rfl⟩ | ⟨hno, rfl⟩
  · left
    obtain ⟨i, hi, hu, ho, hn, hs⟩ := hat k hk
    rw [hs] at hok
    refine ⟨i, ?_, by rw [ho]⟩
    refine (bestK_is (fitB need a) bs bs.length).only (y := some i) ⟨hi, ?_, fun j hj hp => ?_⟩
    · unfold fitB
      rw [ho]
      simp only [Bool.and_eq_true, Bool.not_eq_true', decide_eq_true_eq]
      exact ⟨⟨hu, hn⟩, by omega⟩
    · obtain ⟨k', hk', e', p'⟩ := hto j hj hp
      have hnk : ¬ k' < k := fun hlt => hno k' hlt p'
      obtain ⟨i', hi', hu', ho', hn', hs'⟩ := hat k' hk'
      have hij : i' = j := by
        rcases Nat.lt_trichotomy i' j with h | h | h
        · have := hF.told.rise h hj; omega
        · exact h
        · have := hF.told.rise h hi'; omega
      subst hij
      rcases Nat.lt_or_ge k k' with hlt | hge
      · have hb := List.pairwise_iff_getElem.1 hr k k' hk hk' hlt
        have e1 : xs[k] = (bs.getD i default).off := by rw [ho, List.getD_eq_getElem?_getD, List.getElem?_eq_getElem hk]; rfl
        have e2 : xs[k'] = (bs.getD i' default).off := by rw [← e', List.getD_eq_getElem?_getD, List.getElem?_eq_getElem hk']; rfl
        rw [e1, e2] at hb
        unfold blkLt keyLt at hb
        dsimp only at hb
        rw [hkey i hi hu, hkey i' hi' hu'] at hb
        rcases hb with hb | hb
        · exact .inl hb
        · refine .inr ⟨hb.1, ?_⟩
          rcases Nat.lt_or_ge i' i with h | h
          · have := hF.told.rise h hi; omega
          · exact h
      · obtain rfl : k' = k := by omega
        have hii : i' = i := by
          rcases Nat.lt_trichotomy i' i with h | h | h
          · have := hF.told.rise h hi; omega
          · exact h
          · have := hF.told.rise h hj; omega
        subst hii
        exact .inr ⟨rfl, Nat.le_refl _⟩
  · right
    refine ⟨?_, rfl⟩
    refine (bestK_is (fitB need a) bs bs.length).only (y := none) fun j hj => ?_
    cases hp : fitB need a (bs.getD j default) with
    | false => rfl
    | true =>
      obtain ⟨k, hk, _, p⟩ := hto j hj hp
      exact absurd p (hno k hk)
theorem hfit_any (h : Thinks w T M R B D ws l) (hws : 8 * ws.length = 4800) (hF : HeapF (txSee ws l) E bs) {n a : Nat} (ha : alignP a) (hn : n ≤ 18446744073709551560) :
    Calls Tryz.prog 43 #[.pointer (some ⟨T, 0, none⟩), .int .u64 n, .int .u64 a] w fun e w' => ((∃ i, fitM bs n a = some i ∧ e = .returned (.tuple #[.agg #[.int .u64 ((bs.getD i default).off : Nat), .int .u64 (padN (bs.getD i default).off a : Nat), .int .u64 (needOf n : Nat)], .int .i64 0])) ∨ (fitM bs n a = none ∧ e = .returned (.tuple #[.agg #[.int .u64 0, .int .u64 0, .int .u64 0], .int .i64 3]))) ∧ w.grownBy w' none := by
  have h0 : ∀ y ∈ freesB bs, 0 < y := fun y hy => by have := hF.freeL.on y hy; omega
  have hfr := free_tells h hws hF.hung (needOf n)
  refine (callsIn_wide.1 (cfit_in hfr ha (by omega) rfl fun x hx => ?_)).mono ?_
  · obtain ⟨h1, h2⟩ := (bigL_mem h0).1 hx
    have h3 := hF.freeL.on x h1
    obtain ⟨b, hb, hu, rfl⟩ := freesB_mem.1 h1
    have hk := (hF.told.is b hb).key
    have := (may_bounds (hF.told.is b hb).may).2.2.1
    omega
  · rintro e w' ⟨hf, hg⟩
    exact ⟨best_of hF hf, hg⟩
end
end Go.Proofs.YtcngmkfpbcemjaaGreat
