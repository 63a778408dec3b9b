/-
  Texts of one layer, one behind the other: memory, contracts of the functions, and what follows of them.
  Conditions: as each theorem says.
-/
import Derived.Test.YtcngmkfpbcemjaaGreatTreeV
import Derived.Test.YtcngmkfpbcemjaaGreatLTrg
import Derived.Test.YtcngmkfpbcemjaaGreatLPha
import Derived.Maps.OwnIn
set_option linter.unusedVariables false
set_option linter.unusedSimpArgs false
namespace Go.Proofs.YtcngmkfpbcemjaaGreat
open Go.RowKit
set_option maxRecDepth 100000
theorem two_held1 {w w' : World} {x : Value} {t : TypeId} {b : Nat} (h : w.heap[b]? = some (.cells #[x] t (0, 0))) (hg : w.grownBy w' none) : w'.heap[b]? = some (.cells #[x] t (0, 0)) := (hg.block _ (lt_of_block h) (by simp)).trans h
section
variable {w : World} {T M : Nat} {R : Option Nat} {B D : Nat} {ws : List Nat} {l l' : List (Nat × Nat)} {z : Nat → Nat} {F S L : List Nat} {la : Option Addr} {c : Nat}
theorem check1_any (h : Thinks w T M R B D ws l) (off v : Nat) (ho : off < 18446744073709551616) (kb wb : Nat) (b : Bool) (hk : w.heap[kb]? = some (.cells #[.bool b] 4 (0, 0))) (hw : w.heap[wb]? = some (.cells #[.pointer (some ⟨T, 0, none⟩)] 124 (0, 0))) :
    Calls Tryz.prog 66 #[.int .u64 off, .int .u64 v, .pointer (some ⟨kb, 0, none⟩), .pointer (some ⟨wb, 0, none⟩)] w fun e w' => e = .returned (.tuple #[]) ∧ w'.heap[kb]? = some (.cells #[.bool (b && decide (txSee ws l off = v))] 4 (0, 0)) ∧ w.grownBy w' (some kb) := by
  have hload := txload_any h off ho
  have k0 := cell_of_one hk
  have w0 := cell_of_one hw
  have fk : w.frozen? ⟨kb, 0, none⟩ = false := by simp [World.frozen?, hk]
  have HK := Lib.hid hk
  obtain ⟨x, ex⟩ : ∃ x, txSee ws l off = x := ⟨_, rfl⟩
  rw [ex] at hload ⊢
  clear hk hw h
  cases b with
  | false =>
    go_enter Tryz.func66, Tryz.ntmps66
    go_wp2
    go_end0
    refine ⟨rfl, ?_, grown_set _ _ _ _⟩
    rw [heap_setCell_same HK.out]; rfl
  | true =>
    have hb : ((x : Int) == (v : Int)) = decide (x = v) := by
      by_cases e : x = v
      · rw [decide_eq_true e, e]; simp
      · rw [decide_eq_false e]; simp only [beq_eq_false_iff_ne, ne_eq]; omega
    obtain ⟨d, ed⟩ : ∃ d, decide (x = v) = d := ⟨_, rfl⟩
    rw [ed] at hb ⊢
    clear ed
    go_enter Tryz.func66, Tryz.ntmps66
    go_wp2_with (first | (go_at_call 23; (with_reducible refine hload.mono ?_); rintro e w1 ⟨rfl, hg1⟩; have hk1 := two_held1 HK.out hg1; have k1 := cell_of_one hk1; have f1 : w1.frozen? ⟨kb, 0, none⟩ = false := (by simp [World.frozen?, hk1]); have HK1 := Lib.hid hk1; clear hk1))
    go_end0
    refine ⟨rfl, ?_, grown_trans (grown_any hg1 _) (grown_set _ _ _ _)⟩
    rw [heap_setCell_same HK1.out]; rfl
set_option maxHeartbeats 1000000 in
theorem sons_check (h : Thinks w T M R B D ws l) (x : Nd) (ho : x.o + 16 < 18446744073709551616) (kb wb : Nat) (b : Bool) (hk : w.heap[kb]? = some (.cells #[.bool b] 4 (0, 0))) (hw : w.heap[wb]? = some (.cells #[.pointer (some ⟨T, 0, none⟩)] 124 (0, 0))) :
    Calls Tryz.prog 65 #[.agg #[.int .u64 (x.s : Nat), .int .u64 (x.o : Nat), .int .u64 (x.l : Nat), .int .u64 (x.r : Nat)], .func (.func 66) #[] #[.pointer (some ⟨kb, 0, none⟩), .pointer (some ⟨wb, 0, none⟩)]] w fun e w' => e = .returned (.tuple #[]) ∧ w'.heap[kb]? = some (.cells #[.bool (b && decide (txSee ws l (x.o + 8) = x.l) && decide (txSee ws l (x.o + 16) = x.r))] 4 (0, 0)) ∧ w.grownBy w' (some kb) := by
  obtain ⟨xs, xo, xl, xr⟩ := x
  simp only at ho ⊢
  have hkb := lt_of_block hk
  have hwb := lt_of_block hw
  have hne : kb ≠ wb := ne_type hk hw (by decide)
  have h1 := fun (w1 : World) (hg : w.grownBy w1 none) => check1_any (h.later hg) (xo + 8) xl (by omega) kb wb b (two_held1 hk hg) (two_held1 hw hg)
  have h2 := fun (w1 : World) (w2 : World) (b2 : Bool) (hg : w.grownBy w1 none) (hk2 : w2.heap[kb]? = some (.cells #[.bool b2] 4 (0, 0))) (hg2 : w1.grownBy w2 (some kb)) => check1_any (l := l) (R := R) (D := D) (M := M) (T := T) (w := w2) (ws := ws) (B := B) ((h.later hg).turned (Turned.of_grown hg2) (fun k e => by
    have hk1 := two_held1 hk hg
    have e' : kb = k := by injection e
    subst e'
    exact ⟨(h.later hg).far hk1 (by decide) (by decide), fun e => ne_type hk1 (h.later hg).seg.head (by decide) e, fun e => ne_type hk1 (h.later hg).seg.data (by decide) e⟩)) (xo + 16) xr (by omega) kb wb b2 hk2 ((hg2.block wb (by have := hg.size; omega) (by simpa using hne.symm)).trans (two_held1 hw hg))
  have e8 : IntKind.u64.wrap ((xo : Int) + 8) = (xo + 8 : Nat) := by rw [IntKind.wrap_u64]; omega
  have e16 : IntKind.u64.wrap ((xo : Int) + 16) = (xo + 16 : Nat) := by rw [IntKind.wrap_u64]; omega
  obtain ⟨o8, eo8⟩ : ∃ q, xo + 8 = q := ⟨_, rfl⟩
  obtain ⟨o16, eo16⟩ : ∃ q, xo + 16 = q := ⟨_, rfl⟩
  rw [eo8] at e8 h1
  rw [eo16] at e16 h2
  rw [eo8, eo16]
  have hg0 : w.grownBy (w.alloc (.cells #[.int .u64 xs, .int .u64 xo, .int .u64 xl, .int .u64 xr] 131)) none := World.grownBy_alloc _ _ _
  have hb0 : (w.alloc (.cells #[.int .u64 xs, .int .u64 xo, .int .u64 xl, .int .u64 xr] 131)).heap[w.heap.size]? = some (.cells #[.int .u64 xs, .int .u64 xo, .int .u64 xl, .int .u64 xr] 131 (0, 0)) := heap_alloc_new' _ _
  have HB := Lib.hid hb0
  obtain ⟨b1, hb1⟩ : ∃ b1, (b && decide (txSee ws l o8 = xl)) = b1 := ⟨_, rfl⟩
  rw [hb1] at h1 ⊢
  obtain ⟨d2, hd2⟩ : ∃ d2, decide (txSee ws l o16 = xr) = d2 := ⟨_, rfl⟩
  rw [hd2] at h2 ⊢
  clear hk hw h eo8 eo16 hb1 hd2 hb0
  go_enter Tryz.func65, Tryz.ntmps65
  go_wp2_with (first | (go_at_call 66; (with_reducible refine (h1 _ hg0).mono ?_); rintro e w1 ⟨rfl, hk1, hg1⟩; obtain ⟨q0, q1, q2, q3⟩ := four_cells ((hg1.block _ (lt_of_block HB.out) (by simp; omega)).trans HB.out); have HK1 := Lib.hid hk1; clear hk1) | (go_at_call 66; (with_reducible refine (h2 _ _ b1 hg0 HK1.out hg1).mono ?_); rintro e w2 ⟨rfl, hk2, hg2⟩))
  go_end0
  exact ⟨rfl, hk2, grown_trans (grown_any hg0 _) (grown_trans hg1 hg2)⟩
set_option maxHeartbeats 4000000 in
theorem tcheck_any (h : Thinks w T M R B D ws l) (hB : Bed ws l z F) (hL : ∀ x, x ∈ L → x ∈ F) (hnd : L.Nodup) (hm : WordsAt w la L) (hlen : L.length ≤ 1000000) :
    Calls Tryz.prog 31 #[.pointer (some ⟨T, 0, none⟩), .slice la L.length c] w fun e w' => w.grownBy w' none ∧ ∃ b, e = .returned (.bool b) ∧ (b = true ↔ TreeOf (txSee ws l) rkN (txSee ws l 32) (srtK z L)) := by
  have hg0 : w.grownBy (w.alloc (.cells #[.pointer (some ⟨T, 0, none⟩)] 124)) none := World.grownBy_alloc _ _ _
  have hb0 : (w.alloc (.cells #[.pointer (some ⟨T, 0, none⟩)] 124)).heap[w.heap.size]? = some (.cells #[.pointer (some ⟨T, 0, none⟩)] 124 (0, 0)) := heap_alloc_new' _ _
  have hshape := tshape_any (c := c) (h.later hg0) hB hL hnd (hm.later hg0) hlen
  have hroot := fun (w1 : World) (hg : w.grownBy w1 none) => hroot_any (h.later hg)
  have hSm : ∀ x, x ∈ srtK z L → x ∈ F := fun x hx => hL x (srtK_mem.1 hx)
  have hSl : (srtK z L).length = L.length := srtK_length
  obtain ⟨S, hSe⟩ : ∃ S, srtK z L = S := ⟨_, rfl⟩
  rw [hSe] at hshape hSm hSl ⊢
  obtain ⟨n, hn⟩ : ∃ n, L.length = n := ⟨_, rfl⟩
  rw [hn] at hshape hSl hlen ⊢
  have hS64 : ∀ j, j < n → S.getD j 0 + 16 < 18446744073709551616 := fun j hj => (hB.first (hSm _ (by rw [List.getD_eq_getElem?_getD, List.getElem?_eq_getElem (by omega)]; exact List.getElem_mem _))).2
  have HS64 := Lib.hid hS64
  have HSL := Lib.hid hSl
  have HTH := Lib.hid h
  obtain ⟨r0, hr0⟩ : ∃ r0, txSee ws l 32 = r0 := ⟨_, rfl⟩
  rw [hr0] at hroot ⊢
  have HR0 := Lib.hid hr0
  have HB0 := Lib.hid hb0
  clear hb0 hr0 hS64 hSl h hB hm hSm hnd hn hSe hL
  go_enter Tryz.func31, Tryz.ntmps31
  go_wp2_with (first | (go_at_call 63; (with_reducible refine hshape.mono ?_); rintro e w1 ⟨gb, nds, root, g, rfl, q1, q2, q3, q4, q5, q6, q7⟩) | (go_at_call 64; (with_reducible refine (hroot _ (grown_trans hg0 q6)).mono ?_); rintro e w2 ⟨rfl, hg2⟩; have hgK := World.grownBy_alloc w2 (.cells #[.bool ((r0 : Int) == (root : Int))] 4) none))
  have hkb : w2.heap.size = w2.heap.size := rfl
  have hsz1 := q1.lt
  have hsz2 := hg2.size
  have G2 := grown_trans hg0 (grown_trans q6 hg2)
  have hgw : ∀ wr : World, (w2.alloc (.cells #[.bool ((r0 : Int) == (root : Int))] 4)).grownBy wr (some w2.heap.size) → w.grownBy wr none := fun wr hg => grown_new (grown_trans (grown_any (grown_trans G2 hgK) _) hg) G2.size
  have hW2 := ((grown_trans (grown_trans q6 hg2) hgK).block _ (lt_of_block HB0.out) (by simp)).trans HB0.out
  have hN2 := (q1.later hg2 (by simp)).later hgK (by simp)
  have hb0 := heap_alloc_new' w2 (.cells #[.bool ((r0 : Int) == (root : Int))] 4)
  have hwb := lt_of_block HB0.out
  have hwlt : w.heap.size < w2.heap.size := by have := (grown_trans q6 hg2).size; omega
  have HGW := Lib.hid hgw
  have HW2 := Lib.hid hW2
  have HN2 := Lib.hid hN2
  have HK0 := Lib.hid hb0
  have HO := Lib.hid q3
  have HNS := Lib.hid q4
  have HTR := Lib.hid q5
  have HR := Lib.hid (show ((r0 : Int) == (root : Int)) = true ↔ r0 = root by simp; omega)
  obtain ⟨kb, ekb⟩ : ∃ kb, w2.heap.size = kb := ⟨_, rfl⟩
  rw [ekb] at hsz2 hwlt
  simp only [ekb] at HGW HK0 ⊢
  clear q1 q3 q4 q5 q7 hkb hgw hW2 hN2 hb0 hgK hg2 G2 hwb ekb
  go_loopw [25] (fun p wr => ∃ (i : Nat) (b : Bool), i ≤ n ∧ p = .int .i64 i ∧ wr.heap[kb]? = some (.cells #[.bool b] 4 (0, 0)) ∧ (b = true ↔ (r0 = root ∧ ∀ j, j < i → txSee ws l (S.getD j 0 + 8) = (ndI nds j).l ∧ txSee ws l (S.getD j 0 + 16) = (ndI nds j).r)) ∧ (w2.alloc (.cells #[.bool ((r0 : Int) == (root : Int))] 4)).grownBy wr (some kb)) (fun p _ => n - (intOf p).toNat)
  case atStart => exact ⟨0, _, Nat.zero_le _, rfl, HK0.out, by rw [HR.out]; exact ⟨fun h => ⟨h, fun j hj => by omega⟩, fun h => h.1⟩, grown_refl _ _⟩
  case round =>
    obtain ⟨i, b, hi, rfl, hkr, hiff, hgr⟩ := hrel
    have hgwr := HGW.out _ hgr
    by_cases hin : i < n
    · have hin' : (i : Int) < (n : Int) := by omega
      have hNr := HN2.out.later hgr (by simp; omega)
      have hWr := (hgr.block _ (lt_of_block HW2.out) (by simp; omega)).trans HW2.out
      obtain ⟨c0, c1, c2, c3⟩ := hNr.cell (k := i) (by omega)
      obtain ⟨nd, hnd⟩ : ∃ nd, ndI nds i = nd := ⟨_, rfl⟩
      have hnd2 : nds.getD i default = nd := hnd
      rw [hnd2] at c0 c1 c2 c3
      have hoi := HO.out i hin
      rw [hnd] at hoi
      have hga := World.grownBy_alloc wr (.cells #[.int .u64 (nd.s : Nat), .int .u64 (nd.o : Nat), .int .u64 (nd.l : Nat), .int .u64 (nd.r : Nat)] 131) none
      have hsc := sons_check (HTH.out.later (grown_trans hgwr hga)) nd (by rw [hoi]; exact HS64.out i hin) kb w.heap.size b (two_held1 hkr hga) (two_held1 hWr hga)
      have HIF := Lib.hid hiff
      have HND := Lib.hid hnd
      have HOI := Lib.hid hoi
      have HKR := Lib.hid hkr
      have hna := heap_alloc_new' wr (.cells #[.int .u64 (nd.s : Nat), .int .u64 (nd.o : Nat), .int .u64 (nd.l : Nat), .int .u64 (nd.r : Nat)] 131)
      obtain ⟨m0, m1, m2, m3⟩ := four_cells hna
      clear hiff hnd hnd2 hoi hkr hNr hWr hna
      go_wp2_with (first | (go_at_call 65; (with_reducible refine hsc.mono ?_); rintro e w3 ⟨rfl, hk3, hg3⟩))
      go_roundw
      case rel =>
        refine ⟨i + 1, _, by omega, by go_num, hk3, ?_, grown_trans hgr (grown_trans (grown_any hga _) hg3)⟩
        rw [Bool.and_eq_true, Bool.and_eq_true, HIF.out, decide_eq_true_iff, decide_eq_true_iff, HOI.out]
        constructor
        · rintro ⟨⟨⟨h1, h2⟩, h3⟩, h4⟩
          refine ⟨h1, fun j hj => ?_⟩
          rcases Nat.lt_succ_iff_lt_or_eq.1 hj with h5 | rfl
          · exact h2 j h5
          · rw [HND.out]; exact ⟨h3, h4⟩
        · rintro ⟨h1, h2⟩
          have h3 := h2 i (by omega)
          rw [HND.out] at h3
          exact ⟨⟨⟨h1, fun j hj => h2 j (by omega)⟩, h3.1⟩, h3.2⟩
      case measure => simp [intOf]; omega
    · obtain rfl : i = n := by omega
      have k0 := cell_of_one hkr
      have HIF := Lib.hid hiff
      clear hiff
      go_wp2
      go_ret
      refine ⟨hgwr, b, rfl, ?_⟩
      rw [HIF.out]
      have hat : ∀ x, x ∈ S → ∃ j, j < i ∧ S.getD j 0 = x := fun x hx => by
        obtain ⟨j, hj, e⟩ := List.mem_iff_getElem.1 hx
        exact ⟨j, by have := HSL.out; omega, by rw [List.getD_eq_getElem?_getD, List.getElem?_eq_getElem hj]; exact e⟩
      constructor
      · rintro ⟨h1, h2⟩
        refine HTR.out.carry (fun x hx => ?_) h1
        obtain ⟨j, hj, rfl⟩ := hat x hx
        have h3 := HNS.out.sons j (by omega)
        rw [HO.out j hj] at h3
        have h4 := h2 j hj
        exact ⟨h4.1.trans h3.1.symm, h4.2.trans h3.2.symm⟩
      · intro ht
        obtain ⟨h1, h2⟩ := ht.same HTR.out
        refine ⟨h1, fun j hj => ?_⟩
        have h3 := HNS.out.sons j (by omega)
        rw [HO.out j hj] at h3
        have h4 := h2 (S.getD j 0) (by rw [List.getD_eq_getElem?_getD, List.getElem?_eq_getElem (by have := HSL.out; omega)]; exact List.getElem_mem _)
        exact ⟨h4.1.trans h3.1, h4.2.trans h3.2⟩
end
end Go.Proofs.YtcngmkfpbcemjaaGreat
namespace Go.Proofs.YtcngmkfpbcemjaaGreat
open Go.RowKit Go.Shelf
attribute [local go_sem] Oper.semAt_some
def Aside (lb : Nat) (A : World) (r : Nat) : Prop := (∃ c fr, A.heap[r]? = some (.cells c 23 fr)) ∧ ¬ RowAt lb A r
def Bears (lb B : Nat) (J : List Nat → World → Prop) : Prop := ∀ s A C row, J s A → A.grownBy C row → (∀ r, row = some r → B ≤ r ∧ Aside lb A r) → J s C
def Rests (lb B : Nat) (J : List Nat → World → Prop) : Prop := ∀ s A C row, J s A → A.grownBy C row → (∀ r, row = some r → B ≤ r ∧ ((∃ o : Obj, A.heap[r]? = some o ∧ o.isCells = false) ∨ Aside lb A r)) → J s C
structure TkKeep (n0 lb : Nat) (A C : World) : Prop where
  below : Below n0 A C
  frame : ∀ b, (∃ c t fr, A.heap[b]? = some (.cells c t fr)) → b ≠ lb → ¬ RowAt lb A b → C.heap[b]? = A.heap[b]?
  row : ∀ b, RowAt lb C b → RowAt lb A b ∨ (A.heap.size ≤ b ∧ b < C.heap.size)
theorem TkKeep.trans {n0 lb : Nat} {A C E : World} (h : TkKeep n0 lb A C) (k : TkKeep n0 lb C E) : TkKeep n0 lb A E where
  below := h.below.trans k.below
  frame := fun b hb hn hr => by
    have e := h.frame b hb hn hr
    obtain ⟨c, t, fr, hb⟩ := hb
    refine (k.frame b ⟨c, t, fr, e.trans hb⟩ hn (fun hC => ?_)).trans e
    rcases h.row b hC with h1 | h1
    · exact hr h1
    · have := lt_of_block hb; omega
  row := fun b hb => by
    have h1 := h.below.size
    have h2 := k.below.size
    rcases k.row b hb with h3 | h3
    · rcases h.row b h3 with h4 | h4
      · exact .inl h4
      · exact .inr ⟨h4.1, by omega⟩
    · exact .inr ⟨by omega, h3.2⟩
theorem TkKeep.put {n0 lb : Nat} {w0 : World} (hlb : lb < w0.heap.size) (hn : n0 ≤ w0.heap.size) (W : World) (l : Nat) (o o' : Obj) (hl : w0.heap.size ≤ l) (h : W.heap[l]? = some o) (hc : o.isCells = false) (hw : o.isWalk = false) : TkKeep n0 lb W (W.putObj l o') where
  below := belowK_b (w := w0) hn W l o o' hl h hc hw
  frame := fun b hb _ _ => World.putObj_heap_other (fun e => by
    obtain ⟨c, t, fr, hb⟩ := hb
    subst e; rw [h] at hb; cases hb; cases hc)
  row := fun b hb => .inl (by
    obtain ⟨v, h1, h2⟩ := hb
    refine ⟨v, ?_, h2⟩
    have : (W.putObj l o').heap[lb]? = W.heap[lb]? := World.putObj_heap_other (by omega)
    unfold World.cell? at h1 ⊢
    simp only [this] at h1
    exact h1)
def TellsG (n gf : Nat) (cb : Array Value) (enc : Nat → Array Value) (N lb n0 : Nat) (w : World) : Prop :=
  ∀ (yl : Nat) (J Jx : List Nat → World → Prop) (W : World), Below w.heap.size w W → Bears lb W.heap.size J → Bears lb W.heap.size Jx →
    (∀ pre x V, J pre V → pre.length < N → YieldAt Fence.wide (n - 1) Tryz.prog yl (enc x) V fun e V' => (e = .returned (.bool true) ∧ J (pre ++ [x]) V' ∧ TkKeep n0 lb V V') ∨ (e = .returned (.bool false) ∧ Jx (pre ++ [x]) V')) →
    J [] W →
    CallsIn Fence.wide n Tryz.prog gf (#[.func (.yield yl) #[] #[]] ++ cb) W fun e V => (∃ v, e = .returned v) ∧ ((∃ ys, ys = List.range N ∧ J ys V) ∨ (∃ pre, (∃ m, m ≤ N ∧ pre = List.range m) ∧ Jx pre V))
section
variable {n : Nat} {w w0 : World}
theorem Rests.put {lb B : Nat} {J : List Nat → World → Prop} (h : Rests lb B J) {s : List Nat} {W : World} {l : Nat} {o : Obj} (o' : Obj) (hs : J s W) (hB : B ≤ l) (hl : W.heap[l]? = some o) (ho : o.isCells = false) : J s (W.putObj l o') :=
  h s W _ (some l) hs (grownBy_putObj' W l o') fun r e => by cases e; exact ⟨hB, .inl ⟨o, hl, ho⟩⟩
theorem loop_stays {A C : World} {row : Option Nat} {lb B l : Nat} {o : Obj} (hg : A.grownBy C row) (hr : ∀ r, row = some r → B ≤ r ∧ Aside lb A r) (hl : A.heap[l]? = some o) (ho : o.isCells = false) : C.heap[l]? = some o := by
  refine (hg.block l (lt_of_block hl) fun e => ?_).trans hl
  obtain ⟨_, ⟨c, fr, h2⟩, _⟩ := hr l e.symm
  rw [hl] at h2; cases h2; cases ho
theorem range_tells {g : Operand} {ps : Array Tmp} {assign body : Code} {Q : Exit → Act → World → Prop} {a : Act} (h1 : 1 ≤ n) {gf : Nat} {cb : Array Value} (hg : a.eval g = .func (.func gf) #[] cb)
    (eg : ∀ args w, (callFunc gf args).run Tryz.prog w = .ok (.enter gf args) w) {enc : Nat → Array Value} {N lb n0 : Nat} (hseq : TellsG (n - 1) gf cb enc N lb n0 w0) (hb0 : Below w0.heap.size w0 w) (hn0 : n0 ≤ w.heap.size) (hlb : lb < w.heap.size) (hps : ∀ x, (enc x).size = ps.size)
    (I : List Nat → World → Prop) (Ix : Code → List Nat → World → Prop) (hI : Rests lb w.heap.size I) (hIx : ∀ c, Rests lb w.heap.size (Ix c)) (h0 : I [] w) (a1 : Nat → Act)
    (hassign : ∀ (l x : Nat) (W : World) (K : Act → World → Prop), K (a1 x) W → assign.wpIn (Fence.wide.inRound l) (n - 1 - 1) Tryz.prog (Exit.then K fun _ _ _ => False) { tmps := (ps.zip (enc x)).foldl (fun t (p, v) => t.setIfInBounds p v) a.tmps, defers := [] } W)
    (hbody : ∀ (l : Nat) (pre : List Nat) (x : Nat) (W : World), I pre W → pre.length < N → body.wpIn (Fence.wide.inRound l) (n - 1 - 1) Tryz.prog (ownPostG w.heap.size (TkKeep n0 lb) I Ix (pre ++ [x]) W) (a1 x) W)
    (hdone : ∀ (D : Nat) (W : World), w.heap.size ≤ D → I (List.range N) W → W.heap[D]? = some (.deferred (some [])) → Q .normal { a with defers := { target := .collected D, args := #[] } :: a.defers } W)
    (hstop : ∀ (D : Nat) (c : Code) (m : Nat) (W : World), w.heap.size ≤ D → m ≤ N → Ix c (List.range m) W → W.heap[D]? = some (.deferred (some [])) → c.wpIn Fence.wide n Tryz.prog Q { a with defers := { target := .collected D, args := #[] } :: a.defers } W) :
    (Code.rangeFunc g ps assign body).wpIn Fence.wide n Tryz.prog Q a w := by
  refine wpIn_rangeFunc fun fn hfn => ?_
  rw [show Fence.wide.round = none from rfl]
  obtain ⟨rec, hrec⟩ : ∃ rec : LoopState → Option Code → Loop, rec = fun st pe => { state := st, pending := pe, fn, tmps := a.tmps, params := ps, assign, body, defers := w.heap.size } := ⟨_, rfl⟩
  have hga := grown_trans (World.grownBy_alloc w (.deferred (some [])) none) (World.grownBy_alloc (w.alloc (.deferred (some []))) (.loop (rec .ready none)) none)
  have hD := (Below.heap_alloc (w.alloc (.deferred (some []))) (.loop (rec .ready none)) _ (by simp)).trans (World.alloc_heap_new w (.deferred (some [])))
  have hL := World.alloc_heap_new (w.alloc (.deferred (some []))) (.loop (rec .ready none))
  rw [World.size_alloc] at hL
  have hen := run_enterLoop_outer (P := Tryz.prog) (w := w) fn a.tmps ps assign body
  obtain ⟨V0, hV0⟩ : ∃ V0, (w.alloc (.deferred (some []))).alloc (.loop (rec .ready none)) = V0 := ⟨_, rfl⟩
  have hen2 : (Instr.enterLoop fn a.tmps ps assign body none).run Tryz.prog w = .ok (w.heap.size + 1, [{ target := .collected w.heap.size, args := #[] }]) V0 := by
    rw [← hV0, hrec]; exact hen
  rw [hV0] at hga hD hL
  refine ⟨w.heap.size + 1, [{ target := .collected w.heap.size, args := #[] }], V0, { target := .fn (.func gf) cb, args := #[.func (.yield (w.heap.size + 1)) #[] #[]] }, V0, gf, #[.func (.yield (w.heap.size + 1)) #[] #[]] ++ cb, V0, hen2, ?_, fun f' hf' => trivial, ?_, fun _ => h1, ?_⟩
  · simp only [resolve, hg]; simp [go_sem]
  · simp [invoke, go_sem, eg]
  have hsz0 : w.heap.size + 2 = V0.heap.size := by rw [← hV0]; simp
  have hround := hseq (w.heap.size + 1)
    (fun pre W => I pre W ∧ W.heap[w.heap.size + 1]? = some (.loop (rec .ready none)) ∧ W.heap[w.heap.size]? = some (.deferred (some [])))
    (fun pre W => ∃ c, Ix c pre W ∧ W.heap[w.heap.size + 1]? = some (.loop (rec .done (some c))) ∧ W.heap[w.heap.size]? = some (.deferred (some [])))
    V0 (hb0.grown hga hb0.size (fun k e => by cases e))
    (fun s A C row hs hg' hr => ⟨hI s A C row hs.1 hg' (fun r e => ⟨by have := (hr r e).1; omega, .inr (hr r e).2⟩), loop_stays hg' hr hs.2.1 rfl, loop_stays hg' hr hs.2.2 rfl⟩)
    (fun s A C row ⟨c, hc, hl, hk⟩ hg' hr => ⟨c, hIx c s A C row hc hg' (fun r e => ⟨by have := (hr r e).1; omega, .inr (hr r e).2⟩), loop_stays hg' hr hl rfl, loop_stays hg' hr hk rfl⟩)
    ?_ ⟨hI [] w V0 none h0 hga (fun r e => by cases e), hL, hD⟩
  · refine hround.mono ?_
    rintro e W2 ⟨⟨v, rfl⟩, (⟨ys, rfl, hi, hl, hk⟩ | ⟨pre, ⟨m, hm, rfl⟩, c, hi, hl, hk⟩)⟩
    · have hend := run_endLoop (P := Tryz.prog) hl (by rw [hrec]; simp)
      rw [hrec] at hend
      exact ⟨none, _, hend, hdone _ _ (Nat.le_refl _) (hI.put _ hi (by omega) hl rfl) ((World.putObj_heap_other (by omega)).trans hk)⟩
    · have hend := run_endLoop (P := Tryz.prog) hl (by rw [hrec]; simp)
      rw [hrec] at hend
      exact ⟨some c, _, hend, hstop _ c m _ (Nat.le_refl _) hm ((hIx c).put _ hi (by omega) hl rfl) ((World.putObj_heap_other (by omega)).trans hk)⟩
  rintro pre x W ⟨hi, hl, hk⟩ hlen
  have hy := run_yield (P := Tryz.prog) (args := enc x) hl (by rw [hrec]; exact hps x)
  rw [hrec] at hy
  refine ⟨fn, _, assign, body, hy, roundIn_of_wpIn hfn (hassign _ x W _ ?_)⟩
  refine ⟨_, run_beginRound hl (by rw [hrec]), ?_⟩
  have hlt := lt_of_block hl
  obtain ⟨busy, hbusy⟩ : ∃ busy : Loop, busy = { rec .ready none with state := .busy } := ⟨_, rfl⟩
  rw [← hbusy]
  have hl2 : (W.putObj (w.heap.size + 1) (.loop busy)).heap[w.heap.size + 1]? = some (.loop busy) := World.putObj_heap_same hlt
  have hk2 : (W.putObj (w.heap.size + 1) (.loop busy)).heap[w.heap.size]? = some (.deferred (some [])) := (World.putObj_heap_other (by omega)).trans hk
  have hkp : TkKeep n0 lb W (W.putObj (w.heap.size + 1) (.loop busy)) := TkKeep.put (w0 := w) hlb hn0 _ _ _ _ (by omega) hl rfl rfl
  have hend : ∀ (jump : Option Code) (W3 : World), KeepsFrom w.heap.size (W.putObj (w.heap.size + 1) (.loop busy)) W3 → ∃ r : Loop, r = rec (if jump.isNone then .ready else .done) jump ∧ (Instr.endRound (w.heap.size + 1) jump).run Tryz.prog W3 = .ok (.bool jump.isNone) (W3.putObj (w.heap.size + 1) (.loop r)) ∧ W3.heap[w.heap.size + 1]? = some (.loop busy) ∧ (W3.putObj (w.heap.size + 1) (.loop r)).heap[w.heap.size + 1]? = some (.loop r) ∧ (W3.putObj (w.heap.size + 1) (.loop r)).heap[w.heap.size]? = some (.deferred (some [])) := fun jump W3 hk3 => by
    have hl3 := hk3.same _ _ (by omega) hl2 rfl
    have hr := run_endRound (P := Tryz.prog) jump hl3
    rw [hbusy, hrec] at hr
    refine ⟨_, rfl, ?_, hl3, World.putObj_heap_same (lt_of_block hl3), (World.putObj_heap_other (by omega)).trans (hk3.same _ _ (Nat.le_refl _) hk2 rfl)⟩
    rw [hrec]
    exact hr
  refine wpIn_mono (hbody _ pre x _ (hI.put _ hi (by omega) hl rfl) hlen) ?_
  rintro e a3 W3 hp
  cases e with
  | normal =>
    obtain ⟨hk3, hkp3, hi3⟩ := hp
    obtain ⟨r, hre, hr, hl3, hl4, hk4⟩ := hend none W3 hk3
    refine ⟨_, _, hr, .inl ⟨rfl, ⟨hI.put _ hi3 (by omega) hl3 rfl, hl4.trans (by rw [hre]; rfl), hk4⟩, hkp.trans (hkp3.trans (TkKeep.put (w0 := w) hlb hn0 _ _ _ _ (by omega) hl3 rfl rfl))⟩⟩
  | ret =>
    obtain ⟨hk3, hi3⟩ := hp
    obtain ⟨r, hre, hr, hl3, hl4, hk4⟩ := hend (some .ret) W3 hk3
    exact ⟨_, _, hr, .inr ⟨rfl, .ret, (hIx _).put _ hi3 (by omega) hl3 rfl, hl4.trans (by rw [hre]; rfl), hk4⟩⟩
  | exit id =>
    obtain ⟨hk3, hi3⟩ := hp
    obtain ⟨r, hre, hr, hl3, hl4, hk4⟩ := hend (some (.exit id)) W3 hk3
    exact ⟨_, _, hr, .inr ⟨rfl, .exit id, (hIx _).put _ hi3 (by omega) hl3 rfl, hl4.trans (by rw [hre]; rfl), hk4⟩⟩
  | goto t =>
    obtain ⟨hk3, hi3⟩ := hp
    obtain ⟨r, hre, hr, hl3, hl4, hk4⟩ := hend (some (.goto t)) W3 hk3
    exact ⟨_, _, hr, .inr ⟨rfl, .goto t, (hIx _).put _ hi3 (by omega) hl3 rfl, hl4.trans (by rw [hre]; rfl), hk4⟩⟩
  | panic ch => exact hp.elim
  | outgrown => exact hp.elim
end
end Go.Proofs.YtcngmkfpbcemjaaGreat
