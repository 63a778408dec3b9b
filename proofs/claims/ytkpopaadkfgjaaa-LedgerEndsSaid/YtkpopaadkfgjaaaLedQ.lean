/-
  What comes and goes in the statements of layer 9 (played): the lists are the document's.
  Conditions: the Tx stands in memory, and no block is in a list; the blocks, and the steps, lie in memory.
-/
import Derived.Test.YtkpopaadkfgjaaaLedP
namespace Go.Proofs.Ytkpopaadkfgjaaa
open Go.RowKit
set_option linter.unusedVariables false
set_option linter.unusedSimpArgs false
set_option maxRecDepth 100000

/-- What played tells. -/
def Played (w0 w : World) (T : Nat) (R : Option Nat) (U : List Nat) (tg : Nat → Nat) (L : Nat → List Nat) (e : Ending) (w' : World) : Prop :=
  ∃ R' vs, e = .returned (.tuple #[.agg (box8 vs), .bool true]) ∧ LW w0 w' T R' U tg L ∧ (∀ c, c < 8 → KW w' R' w.heap.size (vs c) (L c)) ∧ Keep w R w' R'
theorem playL_len {U : List Nat} {A B : Nat → Nat} : ∀ k c, (playL U A B k c).length ≤ k
  | 0, c => by simp [playL]
  | k + 1, c => by
    have ih := playL_len (U := U) (A := A) (B := B) k
    have hs : ∀ (L : Nat → List Nat) (d : Nat) (xs : List Nat), (∀ c, (L c).length ≤ k) → xs.length ≤ k + 1 → (setL L d xs c).length ≤ k + 1 := fun L d xs h1 h2 => by
      unfold setL
      split
      · exact h2
      · have := h1 c; omega
    unfold playL playS
    split
    · exact hs _ _ _ ih (Nat.le_trans (List.length_filter_le _ _) (by have := ih (A k % 8); omega))
    · split
      · have := ih c; omega
      · exact hs _ _ _ ih (by have := ih (A k % 8); simp; omega)
theorem nils8 (w : World) : (w.alloc (.cells #[.slice none 0 0, .slice none 0 0, .slice none 0 0, .slice none 0 0, .slice none 0 0, .slice none 0 0, .slice none 0 0, .slice none 0 0] 38)).heap[w.heap.size]? = some (.cells (box8 fun _ => .slice none 0 0) 38 (0, 0)) := heap_alloc_new' w _
set_option maxHeartbeats 16000000 in
theorem played9_any {w0 w : World} {T base n m ca cm : Nat} {R : Option Nat} {U : List Nat} {tg : Nat → Nat} {a la : Option Addr} {A B : Nat → Nat} (h : LW w0 w T R U tg fun _ => []) (hU : Grid U) (hn : U.length = n) (h0 : 0 < n) (hn2 : n ≤ 1000) (ka : KW w R base (.slice a n ca) U) (hs : StepsAt w0 la m A B) (hm : m ≤ maxLen) :
    Calls Try.prog 13 #[.pointer (some ⟨T, 0, none⟩), .slice a n ca, .slice la m cm] w (Played w0 w T R U tg (playL U A B (min m 40))) := by
  unfold maxLen at hm
  obtain ⟨W1, hW1⟩ : ∃ W1, w.alloc (.cells #[.slice none 0 0, .slice none 0 0, .slice none 0 0, .slice none 0 0, .slice none 0 0, .slice none 0 0, .slice none 0 0, .slice none 0 0] 38) = W1 := ⟨_, rfl⟩
  have hg1 : w.grownBy W1 none := by rw [← hW1]; exact World.grownBy_alloc _ _ _
  have hr1 : W1.heap[w.heap.size]? = some (.cells (box8 fun _ => .slice none 0 0) 38 (0, 0)) := by rw [← hW1]; exact nils8 w
  have hsz1 : W1.heap.size = w.heap.size + 1 := by rw [← hW1]; simp
  have hW0 : w0.heap.size ≤ w.heap.size := h.since.size
  have ka1 := ka.later hg1
  have R0 : PyS w0 W1 T R U tg W1.heap.size (playL U A B 0) (playL U A B 0) (W1.alloc (.cells #[.slice none 0 0, .slice none 0 0, .slice none 0 0, .slice none 0 0, .slice none 0 0, .slice none 0 0, .slice none 0 0, .slice none 0 0] 38)) :=
    ⟨R, fun _ => .slice none 0 0, (h.later hg1).later (World.grownBy_alloc _ _ _), Keep.of_grown (World.grownBy_alloc _ _ _), fun c hc => ⟨World.ownsRow_nil _ _ _ _, fun g hg => by simp [Value.ownBlock] at hg⟩, nils8 W1⟩
  have HK := Lib.hid (Keep.of_grown (R := R) hg1)
  have HKA := Lib.hid ka1
  have HS := Lib.hid hs
  have HU := Lib.hid hU
  have HN := Lib.hid hn
  have HR1 := Lib.hid hr1
  clear h ka ka1 hs hg1 hr1
  go_enter Try.func13, Try.ntmps13
  go_wp2
  obtain ⟨ob, hob⟩ : ∃ ob, w.heap.size + 1 = ob := ⟨_, rfl⟩
  rw [hsz1, hob] at R0
  rw [hob]
  have hobw : W1.heap.size ≤ ob := by omega
  have hob0 : w0.heap.size ≤ ob := by omega
  have HOB := Lib.hid hob
  clear hW1 hsz1 hob
  go_loopw [9, 10] (fun b i wr => b = .bool true ∧ ∃ k : Nat, k ≤ min m 40 ∧ i = .int .i64 k ∧ PyS w0 W1 T R U tg ob (playL U A B k) (playL U A B k) wr) (fun _ i _ => 40 - (intOf i).toNat)
  case atStart => exact ⟨rfl, 0, Nat.zero_le _, rfl, R0⟩
  case round =>
    obtain ⟨rfl, k, hk, rfl, RR⟩ := hrel
    clear R0
    have h0' : (0 : Int) < (n : Int) := by omega
    by_cases hlt : k < min m 40
    · have hkm : (k : Int) < (m : Int) := by omega
      have hk40 : (k : Int) < 40 := by omega
      have hplen := fun c => playL_len (U := U) (A := A) (B := B) k c
      have hnext : playL U A B (k + 1) = playS U (playL U A B k) (A k) (B k) := rfl
      obtain ⟨L, hL⟩ : ∃ L, playL U A B k = L := ⟨_, rfl⟩
      rw [hL] at RR hplen hnext
      unfold playS at hnext
      rw [HN.out] at hnext
      have hgr := RR.since
      obtain ⟨bs, os, rfl, hbs, hcs⟩ := (HS.out.later hgr).cells (by omega)
      obtain ⟨s0, s1⟩ := hcs k (by omega)
      obtain ⟨a5, b5⟩ := HS.out.lt k
      obtain ⟨x, hx⟩ : ∃ x, A k = x := ⟨_, rfl⟩
      obtain ⟨y, hy⟩ : ∃ y, B k = y := ⟨_, rfl⟩
      rw [hx] at s0 a5 hnext
      rw [hy] at s1 b5 hnext
      obtain ⟨c, hc⟩ : ∃ c, x % 8 = c := ⟨_, rfl⟩
      obtain ⟨q, hq⟩ : ∃ q, y % n = q := ⟨_, rfl⟩
      have hc8 : c < 8 := by omega
      have hqn : q < n := by have := Nat.mod_lt y h0; omega
      have e1 : (x : Int) % 8 = (c : Nat) := by omega
      have e3 : (y : Int).tmod (n : Int) = (q : Nat) := by rw [← hq]; rfl
      have en : ¬ (n : Int) = 0 := by omega
      rw [hc, hq] at hnext
      obtain ⟨ba, oa, rfl, hba, hca⟩ := (RR.all HKA.out).cells (by rw [HN.out]; omega)
      have u0 := hca q (by rw [HN.out]; exact hqn)
      obtain ⟨z, hz⟩ : ∃ z, U.getD q 0 = z := ⟨_, rfl⟩
      have hzU : z ∈ U := by
        rw [← hz, List.getD_eq_getElem?_getD, List.getElem?_eq_getElem (by rw [HN.out]; exact hqn)]
        exact List.getElem_mem _
      rw [hz] at u0 hnext
      have HNX := Lib.hid hnext
      have HPL := Lib.hid hplen
      have HL := Lib.hid hL
      clear hcs hca hx hy hc hq hz hL hnext hplen
      go_wp2
      clear e1 e3 en s0 s1 u0
      obtain ⟨wo, hwo⟩ : ∃ wo, wr = wo := ⟨_, rfl⟩
      subst hwo
      go_loopw [13, 14] (fun b i wq => ∃ j : Nat, j ≤ 8 ∧ i = .int .i64 j ∧ b = .bool (anyL L z j) ∧ wr.grownBy wq none) (fun _ i _ => 8 - (intOf i).toNat)
      case atStart => exact ⟨0, Nat.zero_le _, rfl, rfl, grown_refl _ _⟩
      case round =>
        obtain ⟨j, hj, rfl, rfl, hgq⟩ := hrel
        have RQ := RR.later hgq
        by_cases hj8 : j < 8
        · have hj8' : (j : Int) < 8 := by omega
          obtain ⟨aj, cj, cc, _, hwj⟩ := RQ.cell hj8
          have hlj : (L j).length ≤ 1000000 := by have := HPL.out j; omega
          obtain ⟨nj, hnj⟩ : ∃ nj, (L j).length = nj := ⟨_, rfl⟩
          have hin := rin9_any (c := cj) hwj hnj (by omega) z
          rw [hnj] at cc
          obtain ⟨d, hd⟩ : ∃ d, decide (z ∈ L j) = d := ⟨_, rfl⟩
          rw [hd] at hin
          have hany : anyL L z (j + 1) = (anyL L z j || d) := by rw [← hd]; rfl
          have HANY := Lib.hid hany
          obtain ⟨bb, hbb⟩ : ∃ bb, anyL L z j = bb := ⟨_, rfl⟩
          rw [hbb] at HANY ⊢
          clear hbb hd hnj hlj hwj hany
          cases bb with
          | true =>
            go_wp2
            go_roundw
            case rel => exact ⟨j + 1, by omega, by go_num, by rw [HANY.out]; rfl, hgq⟩
            case measure => simp [intOf]; omega
          | false =>
            go_wp2_with (go_at_call 16; (with_reducible refine hin.mono ?_); rintro e w5 ⟨rfl, hg5⟩)
            go_roundw
            case rel => exact ⟨j + 1, by omega, by go_num, by rw [HANY.out]; rfl, grown_trans hgq hg5⟩
            case measure => simp [intOf]; omega
        · obtain rfl : j = 8 := by omega
          have hlc := HPL.out c
          obtain ⟨ac, cpc, cc, _, hwc⟩ := RQ.cell hc8
          obtain ⟨nc, hnc⟩ : ∃ nc, (L c).length = nc := ⟨_, rfl⟩
          have hin := rin9_any (c := cpc) hwc hnc (by omega) z
          rw [hnc] at cc hlc
          have HNC := Lib.hid hnc
          have hnc3 : nc ≤ 100000 := by omega
          have hnc6 : nc ≤ 1000000 := by omega
          have hgk := grown_trans hgr hgq
          clear hnc hlc
          by_cases hz1 : z ∈ L c
          · rw [decide_eq_true hz1] at hin
            have hnx := HNX.out
            rw [if_pos hz1] at hnx
            have HX := Lib.hid hnx
            clear hnx
            obtain ⟨xs, hxs⟩ : ∃ xs, ((L c).filter fun y => decide (y ≠ z)) = xs := ⟨_, rfl⟩
            have HXS := Lib.hid hxs
            clear hxs
            go_wp2_with (first | (go_at_call 16; go_must ((with_reducible refine hin.mono ?_); rintro e w6 ⟨rfl, hg6⟩; have R6 := RQ.later hg6)) | (go_at_call 19; go_must ((with_reducible refine (R6.unlink HU.out hc8 hz1).mono ?_); rintro e w7 ⟨rfl, R7⟩; obtain ⟨a7, c7, cc7, f7, hw7⟩ := R7.cell hc8; rw [HNC.out] at cc7)) | (go_at_call 20; go_must ((with_reducible refine (rwithout_any hw7 HNC.out hnc6 z).mono ?_); rintro e w8 ⟨v8, rfl, ho8, hg8⟩; have V8 := R7.made hg8 ho8; rw [HXS.out] at V8; obtain ⟨_, _, _, f8, _⟩ := (R7.later hg8).cell hc8; obtain ⟨a8, c8, hv8⟩ := V8.lie; obtain ⟨n8, hn8⟩ : ∃ n8, xs.length = n8 := ⟨_, rfl⟩; rw [hn8] at hv8; have HN8 := Lib.hid hn8; clear hn8; subst hv8; have R9 := V8.put hobw hob0 hc8 rfl; have hw9 := V8.put_lie (c := c))) | (go_at_call 10; go_must ((with_reducible refine (R9.check HU.out hc8 (by rw [setL_same]; exact hw9) (by rw [setL_same]; exact HN8.out)).mono ?_); rintro e w10 ⟨rfl, hg10⟩; have R10 := R9.later hg10)))
            exact ⟨⟨rfl, k + 1, by omega, by go_num, by rw [HX.out, HXS.out]; exact R10⟩, by simp [intOf]; omega⟩
          · rw [decide_eq_false hz1] at hin
            have hnx := HNX.out
            rw [if_neg hz1] at hnx
            obtain ⟨bb, hbb⟩ : ∃ bb, anyL L z 8 = bb := ⟨_, rfl⟩
            rw [hbb] at hnx ⊢
            cases bb with
            | true =>
              rw [if_pos rfl] at hnx
              have HX := Lib.hid hnx
              clear hnx hbb
              go_wp2_with (first | (go_at_call 16; go_must ((with_reducible refine hin.mono ?_); rintro e w6 ⟨rfl, hg6⟩; have R6 := RQ.later hg6; obtain ⟨a6, c6, cc6, _, hw6⟩ := R6.cell hc8; rw [HNC.out] at cc6)) | (go_at_call 10; go_must ((with_reducible refine (R6.check HU.out hc8 hw6 HNC.out).mono ?_); rintro e w10 ⟨rfl, hg10⟩; have R10 := R6.later hg10)))
              exact ⟨⟨rfl, k + 1, by omega, by go_num, by rw [HX.out]; exact R10⟩, by simp [intOf]; omega⟩
            | false =>
              rw [if_neg (by decide)] at hnx
              have HX := Lib.hid hnx
              have hno := anyL_no hbb
              clear hnx hbb
              obtain ⟨xs, hxs⟩ : ∃ xs, z :: L c = xs := ⟨_, rfl⟩
              have HXS := Lib.hid hxs
              clear hxs
              go_wp2_with (first | (go_at_call 16; go_must ((with_reducible refine hin.mono ?_); rintro e w6 ⟨rfl, hg6⟩; have R6 := RQ.later hg6)) | (go_at_call 17; go_must ((with_reducible refine (R6.link HU.out hc8 hzU hno).mono ?_); rintro e w7 ⟨rfl, R7⟩; obtain ⟨a7, c7, cc7, f7, hw7⟩ := R7.cell hc8; rw [HNC.out] at cc7)) | (go_at_call 33; go_must ((with_reducible refine (rfirst_any hw7 HNC.out hnc3 z).mono ?_); rintro e w8 ⟨v8, rfl, ho8, hg8⟩; have V8 := R7.made hg8 ho8; rw [HXS.out] at V8; obtain ⟨_, _, _, f8, _⟩ := (R7.later hg8).cell hc8; obtain ⟨a8, c8, hv8⟩ := V8.lie; obtain ⟨n8, hn8⟩ : ∃ n8, xs.length = n8 := ⟨_, rfl⟩; rw [hn8] at hv8; have HN8 := Lib.hid hn8; clear hn8; subst hv8; have R9 := V8.put hobw hob0 hc8 rfl; have hw9 := V8.put_lie (c := c))) | (go_at_call 10; go_must ((with_reducible refine (R9.check HU.out hc8 (by rw [setL_same]; exact hw9) (by rw [setL_same]; exact HN8.out)).mono ?_); rintro e w10 ⟨rfl, hg10⟩; have R10 := R9.later hg10)))
              exact ⟨⟨rfl, k + 1, by omega, by go_num, by rw [HX.out, HXS.out]; exact R10⟩, by simp [intOf]; omega⟩
    · have hkN : k = min m 40 := by omega
      obtain ⟨R2, vs, q1, q2, q3, q4⟩ := RR.is
      have hrb : wr.heap[w.heap.size]? = some (.cells #[.slice none 0 0, .slice none 0 0, .slice none 0 0, .slice none 0 0, .slice none 0 0, .slice none 0 0, .slice none 0 0, .slice none 0 0] 38 (0, 0)) := q2.far HR1.out (by decide) (by decide)
      have q4l : wr.heap[ob]? = some (.cells #[vs 0, vs 1, vs 2, vs 3, vs 4, vs 5, vs 6, vs 7] 38 (0, 0)) := q4
      obtain ⟨a0, n0, c0, hv0⟩ := wv_form (q3 0 (by decide)).1
      obtain ⟨a1, n1, c1, hv1⟩ := wv_form (q3 1 (by decide)).1
      obtain ⟨a2, n2, c2, hv2⟩ := wv_form (q3 2 (by decide)).1
      obtain ⟨a3, n3, c3, hv3⟩ := wv_form (q3 3 (by decide)).1
      obtain ⟨a4, n4, c4, hv4⟩ := wv_form (q3 4 (by decide)).1
      obtain ⟨a5, n5, c5, hv5⟩ := wv_form (q3 5 (by decide)).1
      obtain ⟨a6, n6, c6, hv6⟩ := wv_form (q3 6 (by decide)).1
      obtain ⟨a7, n7, c7, hv7⟩ := wv_form (q3 7 (by decide)).1
      have d0 : wr.cell? ⟨ob, 0, none⟩ = some (.slice a0 n0 c0) := by rw [← hv0]; simp [World.cell?, q4l]
      have e0 : wr.cell? ⟨w.heap.size, 0, none⟩ = some (.slice none 0 0) := by simp [World.cell?, hrb]
      have f0 : wr.frozen? ⟨w.heap.size, 0, none⟩ = false := by simp [World.frozen?, hrb]
      have d1 : wr.cell? ⟨ob, 1, none⟩ = some (.slice a1 n1 c1) := by rw [← hv1]; simp [World.cell?, q4l]
      have e1 : wr.cell? ⟨w.heap.size, 1, none⟩ = some (.slice none 0 0) := by simp [World.cell?, hrb]
      have f1 : wr.frozen? ⟨w.heap.size, 1, none⟩ = false := by simp [World.frozen?, hrb]
      have d2 : wr.cell? ⟨ob, 2, none⟩ = some (.slice a2 n2 c2) := by rw [← hv2]; simp [World.cell?, q4l]
      have e2 : wr.cell? ⟨w.heap.size, 2, none⟩ = some (.slice none 0 0) := by simp [World.cell?, hrb]
      have f2 : wr.frozen? ⟨w.heap.size, 2, none⟩ = false := by simp [World.frozen?, hrb]
      have d3 : wr.cell? ⟨ob, 3, none⟩ = some (.slice a3 n3 c3) := by rw [← hv3]; simp [World.cell?, q4l]
      have e3 : wr.cell? ⟨w.heap.size, 3, none⟩ = some (.slice none 0 0) := by simp [World.cell?, hrb]
      have f3 : wr.frozen? ⟨w.heap.size, 3, none⟩ = false := by simp [World.frozen?, hrb]
      have d4 : wr.cell? ⟨ob, 4, none⟩ = some (.slice a4 n4 c4) := by rw [← hv4]; simp [World.cell?, q4l]
      have e4 : wr.cell? ⟨w.heap.size, 4, none⟩ = some (.slice none 0 0) := by simp [World.cell?, hrb]
      have f4 : wr.frozen? ⟨w.heap.size, 4, none⟩ = false := by simp [World.frozen?, hrb]
      have d5 : wr.cell? ⟨ob, 5, none⟩ = some (.slice a5 n5 c5) := by rw [← hv5]; simp [World.cell?, q4l]
      have e5 : wr.cell? ⟨w.heap.size, 5, none⟩ = some (.slice none 0 0) := by simp [World.cell?, hrb]
      have f5 : wr.frozen? ⟨w.heap.size, 5, none⟩ = false := by simp [World.frozen?, hrb]
      have d6 : wr.cell? ⟨ob, 6, none⟩ = some (.slice a6 n6 c6) := by rw [← hv6]; simp [World.cell?, q4l]
      have e6 : wr.cell? ⟨w.heap.size, 6, none⟩ = some (.slice none 0 0) := by simp [World.cell?, hrb]
      have f6 : wr.frozen? ⟨w.heap.size, 6, none⟩ = false := by simp [World.frozen?, hrb]
      have d7 : wr.cell? ⟨ob, 7, none⟩ = some (.slice a7 n7 c7) := by rw [← hv7]; simp [World.cell?, q4l]
      have e7 : wr.cell? ⟨w.heap.size, 7, none⟩ = some (.slice none 0 0) := by simp [World.cell?, hrb]
      have f7 : wr.frozen? ⟨w.heap.size, 7, none⟩ = false := by simp [World.frozen?, hrb]
      have HQ4 := Lib.hid q4
      have HRB := Lib.hid hrb
      have H1 := Lib.hid q1
      have H2 := Lib.hid q2
      have H3 := Lib.hid q3
      have hbv : box8 vs = #[.slice a0 n0 c0, .slice a1 n1 c1, .slice a2 n2 c2, .slice a3 n3 c3, .slice a4 n4 c4, .slice a5 n5 c5, .slice a6 n6 c6, .slice a7 n7 c7] := by
        show #[vs 0, vs 1, vs 2, vs 3, vs 4, vs 5, vs 6, vs 7] = _
        rw [hv0, hv1, hv2, hv3, hv4, hv5, hv6, hv7]
      have HBV := Lib.hid hbv
      clear q4 q4l hrb q1 q2 q3 RR hbv hv0 hv1 hv2 hv3 hv4 hv5 hv6 hv7
      by_cases hkm : (k : Int) < (m : Int)
      · have hk40 : ¬ (k : Int) < 40 := by omega
        go_wp2
        obtain ⟨hV, hs8⟩ := sets8 HRB.out (.slice a0 n0 c0) (.slice a1 n1 c1) (.slice a2 n2 c2) (.slice a3 n3 c3) (.slice a4 n4 c4) (.slice a5 n5 c5) (.slice a6 n6 c6) (.slice a7 n7 c7)
        refine bodyPost_ret (v := .tuple #[.agg #[.slice a0 n0 c0, .slice a1 n1 c1, .slice a2 n2 c2, .slice a3 n3 c3, .slice a4 n4 c4, .slice a5 n5 c5, .slice a6 n6 c6, .slice a7 n7 c7], .bool true]) (by simp [results, Try.results13, go_sem, e0, e1, e2, e3, e4, e5, e6, e7]) rfl ?_
        rw [hkN] at H1 H3
        have hsw := HK.out.size
        refine ⟨R2, vs, by rw [HBV.out], turn8_lw HRB.out hs8 hW0 H1.out, fun c hc => (turn8_kw HRB.out hs8 (H3.out c hc)).mono hsw, turn8_keep HRB.out hs8 (Nat.le_refl _) (HK.out.trans H2.out)⟩
      · go_wp2
        obtain ⟨hV, hs8⟩ := sets8 HRB.out (.slice a0 n0 c0) (.slice a1 n1 c1) (.slice a2 n2 c2) (.slice a3 n3 c3) (.slice a4 n4 c4) (.slice a5 n5 c5) (.slice a6 n6 c6) (.slice a7 n7 c7)
        refine bodyPost_ret (v := .tuple #[.agg #[.slice a0 n0 c0, .slice a1 n1 c1, .slice a2 n2 c2, .slice a3 n3 c3, .slice a4 n4 c4, .slice a5 n5 c5, .slice a6 n6 c6, .slice a7 n7 c7], .bool true]) (by simp [results, Try.results13, go_sem, e0, e1, e2, e3, e4, e5, e6, e7]) rfl ?_
        rw [hkN] at H1 H3
        have hsw := HK.out.size
        refine ⟨R2, vs, by rw [HBV.out], turn8_lw HRB.out hs8 hW0 H1.out, fun c hc => (turn8_kw HRB.out hs8 (H3.out c hc)).mono hsw, turn8_keep HRB.out hs8 (Nat.le_refl _) (HK.out.trans H2.out)⟩
end Go.Proofs.Ytkpopaadkfgjaaa
