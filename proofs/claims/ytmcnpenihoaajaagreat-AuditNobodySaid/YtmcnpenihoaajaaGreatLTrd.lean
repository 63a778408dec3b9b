/-
  Texts of one layer, one behind the other: memory, contracts of the functions, and what follows of them.
  Conditions: as each theorem says.
-/
import Derived.Test.YtmcnpenihoaajaaGreatLTrc
import Derived.Test.YtmcnpenihoaajaaGreatLTra
import Derived.Test.YtmcnpenihoaajaaGreatLTxa
import Derived.Maps.OwnIn
import Derived.Test.YtmcnpenihoaajaaGreatLPha
import Derived.Test.YtmcnpenihoaajaaGreatLTaa
import Derived.Test.YtmcnpenihoaajaaGreatLPhb
import Derived.StillTailTactics
import Derived.Deep.RegionHeld3
import Derived.Deep.QuietTactic
import Derived.BigQuiet
import Derived.Laws.StructEq
import Derived.Deep.AppendLies
import Derived.Laws.AppendOwnNone
import Derived.RangeFuncCalls
import Derived.TacticsInMore
import Derived.OrdersIn
import Derived.Test.YtmcnpenihoaajaaGreatLSea
import Derived.Test.YtmcnpenihoaajaaGreatLHea
import Derived.Test.YtmcnpenihoaajaaGreatLWoa
set_option linter.unusedVariables false
set_option linter.unusedSimpArgs false
namespace Go.Proofs.YtmcnpenihoaajaaGreat
open Go.RowKit
set_option maxRecDepth 100000
theorem two_held1 {w w' : World} {x : Value} {t : TypeId} {b : Nat} (h : w.heap[b]? = some (.cells #[x] t (0, 0))) (hg : w.grownBy w' none) : w'.heap[b]? = some (.cells #[x] t (0, 0)) := (hg.block _ (lt_of_block h) (by simp)).trans h
section
variable {w : World} {T M : Nat} {R : Option Nat} {B D : Nat} {ws : List Nat} {l l' : List (Nat × Nat)} {z : Nat → Nat} {F S L : List Nat} {la : Option Addr} {c : Nat}
theorem check1_any (h : Thinks w T M R B D ws l) (off v : Nat) (ho : off < 18446744073709551616) (kb wb : Nat) (b : Bool) (hk : w.heap[kb]? = some (.cells #[.bool b] 4 (0, 0))) (hw : w.heap[wb]? = some (.cells #[.pointer (some ⟨T, 0, none⟩)] 152 (0, 0))) :
    Calls Tryz.prog 84 #[.int .u64 off, .int .u64 v, .pointer (some ⟨kb, 0, none⟩), .pointer (some ⟨wb, 0, none⟩)] w fun e w' => e = .returned (.tuple #[]) ∧ w'.heap[kb]? = some (.cells #[.bool (b && decide (txSee ws l off = v))] 4 (0, 0)) ∧ w.grownBy w' (some kb) := by
  have hload := txload_any h off ho
  have k0 := cell_of_one hk
  have w0 := cell_of_one hw
  have fk : w.frozen? ⟨kb, 0, none⟩ = false := by simp [World.frozen?, hk]
  have HK := Lib.hid hk
  obtain ⟨x, ex⟩ : ∃ x, txSee ws l off = x := ⟨_, rfl⟩
  rw [ex] at hload ⊢
  clear hk hw h
  cases b with
  | false =>
    go_enter Tryz.func84, Tryz.ntmps84
    go_wp2
    go_end0
    refine ⟨rfl, ?_, grown_set _ _ _ _⟩
    rw [heap_setCell_same HK.out]; rfl
  | true =>
    have hb : ((x : Int) == (v : Int)) = decide (x = v) := by
      by_cases e : x = v
      · rw [decide_eq_true e, e]; simp
      · rw [decide_eq_false e]; simp only [beq_eq_false_iff_ne, ne_eq]; omega
    obtain ⟨d, ed⟩ : ∃ d, decide (x = v) = d := ⟨_, rfl⟩
    rw [ed] at hb ⊢
    clear ed
    go_enter Tryz.func84, Tryz.ntmps84
    go_wp2_with (first | (go_at_call 66; (with_reducible refine hload.mono ?_); rintro e w1 ⟨rfl, hg1⟩; have hk1 := two_held1 HK.out hg1; have k1 := cell_of_one hk1; have f1 : w1.frozen? ⟨kb, 0, none⟩ = false := (by simp [World.frozen?, hk1]); have HK1 := Lib.hid hk1; clear hk1))
    go_end0
    refine ⟨rfl, ?_, grown_trans (grown_any hg1 _) (grown_set _ _ _ _)⟩
    rw [heap_setCell_same HK1.out]; rfl
set_option maxHeartbeats 1000000 in
theorem sons_check (h : Thinks w T M R B D ws l) (x : Nd) (ho : x.o + 16 < 18446744073709551616) (kb wb : Nat) (b : Bool) (hk : w.heap[kb]? = some (.cells #[.bool b] 4 (0, 0))) (hw : w.heap[wb]? = some (.cells #[.pointer (some ⟨T, 0, none⟩)] 152 (0, 0))) :
    Calls Tryz.prog 83 #[.agg #[.int .u64 (x.s : Nat), .int .u64 (x.o : Nat), .int .u64 (x.l : Nat), .int .u64 (x.r : Nat)], .func (.func 84) #[] #[.pointer (some ⟨kb, 0, none⟩), .pointer (some ⟨wb, 0, none⟩)]] w fun e w' => e = .returned (.tuple #[]) ∧ w'.heap[kb]? = some (.cells #[.bool (b && decide (txSee ws l (x.o + 8) = x.l) && decide (txSee ws l (x.o + 16) = x.r))] 4 (0, 0)) ∧ w.grownBy w' (some kb) := by
  obtain ⟨xs, xo, xl, xr⟩ := x
  simp only at ho ⊢
  have hkb := lt_of_block hk
  have hwb := lt_of_block hw
  have hne : kb ≠ wb := ne_type hk hw (by decide)
  have h1 := fun (w1 : World) (hg : w.grownBy w1 none) => check1_any (h.later hg) (xo + 8) xl (by omega) kb wb b (two_held1 hk hg) (two_held1 hw hg)
  have h2 := fun (w1 : World) (w2 : World) (b2 : Bool) (hg : w.grownBy w1 none) (hk2 : w2.heap[kb]? = some (.cells #[.bool b2] 4 (0, 0))) (hg2 : w1.grownBy w2 (some kb)) => check1_any (l := l) (R := R) (D := D) (M := M) (T := T) (w := w2) (ws := ws) (B := B) ((h.later hg).turned (Turned.of_grown hg2) (fun k e => by
    have hk1 := two_held1 hk hg
    have e' : kb = k := by injection e
    subst e'
    exact ⟨(h.later hg).far hk1 (by decide) (by decide), fun e => ne_type hk1 (h.later hg).seg.head (by decide) e, fun e => ne_type hk1 (h.later hg).seg.data (by decide) e⟩)) (xo + 16) xr (by omega) kb wb b2 hk2 ((hg2.block wb (by have := hg.size; omega) (by simpa using hne.symm)).trans (two_held1 hw hg))
  have e8 : IntKind.u64.wrap ((xo : Int) + 8) = (xo + 8 : Nat) := by rw [IntKind.wrap_u64]; omega
  have e16 : IntKind.u64.wrap ((xo : Int) + 16) = (xo + 16 : Nat) := by rw [IntKind.wrap_u64]; omega
  obtain ⟨o8, eo8⟩ : ∃ q, xo + 8 = q := ⟨_, rfl⟩
  obtain ⟨o16, eo16⟩ : ∃ q, xo + 16 = q := ⟨_, rfl⟩
  rw [eo8] at e8 h1
  rw [eo16] at e16 h2
  rw [eo8, eo16]
  have hg0 : w.grownBy (w.alloc (.cells #[.int .u64 xs, .int .u64 xo, .int .u64 xl, .int .u64 xr] 159)) none := World.grownBy_alloc _ _ _
  have hb0 : (w.alloc (.cells #[.int .u64 xs, .int .u64 xo, .int .u64 xl, .int .u64 xr] 159)).heap[w.heap.size]? = some (.cells #[.int .u64 xs, .int .u64 xo, .int .u64 xl, .int .u64 xr] 159 (0, 0)) := heap_alloc_new' _ _
  have HB := Lib.hid hb0
  obtain ⟨b1, hb1⟩ : ∃ b1, (b && decide (txSee ws l o8 = xl)) = b1 := ⟨_, rfl⟩
  rw [hb1] at h1 ⊢
  obtain ⟨d2, hd2⟩ : ∃ d2, decide (txSee ws l o16 = xr) = d2 := ⟨_, rfl⟩
  rw [hd2] at h2 ⊢
  clear hk hw h eo8 eo16 hb1 hd2 hb0
  go_enter Tryz.func83, Tryz.ntmps83
  go_wp2_with (first | (go_at_call 84; (with_reducible refine (h1 _ hg0).mono ?_); rintro e w1 ⟨rfl, hk1, hg1⟩; obtain ⟨q0, q1, q2, q3⟩ := four_cells ((hg1.block _ (lt_of_block HB.out) (by simp; omega)).trans HB.out); have HK1 := Lib.hid hk1; clear hk1) | (go_at_call 84; (with_reducible refine (h2 _ _ b1 hg0 HK1.out hg1).mono ?_); rintro e w2 ⟨rfl, hk2, hg2⟩))
  go_end0
  exact ⟨rfl, hk2, grown_trans (grown_any hg0 _) (grown_trans hg1 hg2)⟩
set_option maxHeartbeats 4000000 in
theorem tcheck_any (h : Thinks w T M R B D ws l) (hB : Bed ws l z F) (hL : ∀ x, x ∈ L → x ∈ F) (hnd : L.Nodup) (hm : WordsAt w la L) (hlen : L.length ≤ 1000000) :
    Calls Tryz.prog 48 #[.pointer (some ⟨T, 0, none⟩), .slice la L.length c] w fun e w' => w.grownBy w' none ∧ ∃ b, e = .returned (.bool b) ∧ (b = true ↔ TreeOf (txSee ws l) rkN (txSee ws l 32) (srtK z L)) := by
  have hg0 : w.grownBy (w.alloc (.cells #[.pointer (some ⟨T, 0, none⟩)] 152)) none := World.grownBy_alloc _ _ _
  have hb0 : (w.alloc (.cells #[.pointer (some ⟨T, 0, none⟩)] 152)).heap[w.heap.size]? = some (.cells #[.pointer (some ⟨T, 0, none⟩)] 152 (0, 0)) := heap_alloc_new' _ _
  have hshape := tshape_any (c := c) (h.later hg0) hB hL hnd (hm.later hg0) hlen
  have hroot := fun (w1 : World) (hg : w.grownBy w1 none) => hroot_any (h.later hg)
  have hSm : ∀ x, x ∈ srtK z L → x ∈ F := fun x hx => hL x (srtK_mem.1 hx)
  have hSl : (srtK z L).length = L.length := srtK_length
  obtain ⟨S, hSe⟩ : ∃ S, srtK z L = S := ⟨_, rfl⟩
  rw [hSe] at hshape hSm hSl ⊢
  obtain ⟨n, hn⟩ : ∃ n, L.length = n := ⟨_, rfl⟩
  rw [hn] at hshape hSl hlen ⊢
  have hS64 : ∀ j, j < n → S.getD j 0 + 16 < 18446744073709551616 := fun j hj => (hB.first (hSm _ (by rw [List.getD_eq_getElem?_getD, List.getElem?_eq_getElem (by omega)]; exact List.getElem_mem _))).2
  have HS64 := Lib.hid hS64
  have HSL := Lib.hid hSl
  have HTH := Lib.hid h
  obtain ⟨r0, hr0⟩ : ∃ r0, txSee ws l 32 = r0 := ⟨_, rfl⟩
  rw [hr0] at hroot ⊢
  have HR0 := Lib.hid hr0
  have HB0 := Lib.hid hb0
  clear hb0 hr0 hS64 hSl h hB hm hSm hnd hn hSe hL
  go_enter Tryz.func48, Tryz.ntmps48
  go_wp2_with (first | (go_at_call 81; (with_reducible refine hshape.mono ?_); rintro e w1 ⟨gb, nds, root, g, rfl, q1, q2, q3, q4, q5, q6, q7⟩) | (go_at_call 82; (with_reducible refine (hroot _ (grown_trans hg0 q6)).mono ?_); rintro e w2 ⟨rfl, hg2⟩; have hgK := World.grownBy_alloc w2 (.cells #[.bool ((r0 : Int) == (root : Int))] 4) none))
  have hkb : w2.heap.size = w2.heap.size := rfl
  have hsz1 := q1.lt
  have hsz2 := hg2.size
  have G2 := grown_trans hg0 (grown_trans q6 hg2)
  have hgw : ∀ wr : World, (w2.alloc (.cells #[.bool ((r0 : Int) == (root : Int))] 4)).grownBy wr (some w2.heap.size) → w.grownBy wr none := fun wr hg => grown_new (grown_trans (grown_any (grown_trans G2 hgK) _) hg) G2.size
  have hW2 := ((grown_trans (grown_trans q6 hg2) hgK).block _ (lt_of_block HB0.out) (by simp)).trans HB0.out
  have hN2 := (q1.later hg2 (by simp)).later hgK (by simp)
  have hb0 := heap_alloc_new' w2 (.cells #[.bool ((r0 : Int) == (root : Int))] 4)
  have hwb := lt_of_block HB0.out
  have hwlt : w.heap.size < w2.heap.size := by have := (grown_trans q6 hg2).size; omega
  have HGW := Lib.hid hgw
  have HW2 := Lib.hid hW2
  have HN2 := Lib.hid hN2
  have HK0 := Lib.hid hb0
  have HO := Lib.hid q3
  have HNS := Lib.hid q4
  have HTR := Lib.hid q5
  have HR := Lib.hid (show ((r0 : Int) == (root : Int)) = true ↔ r0 = root by simp; omega)
  obtain ⟨kb, ekb⟩ : ∃ kb, w2.heap.size = kb := ⟨_, rfl⟩
  rw [ekb] at hsz2 hwlt
  simp only [ekb] at HGW HK0 ⊢
  clear q1 q3 q4 q5 q7 hkb hgw hW2 hN2 hb0 hgK hg2 G2 hwb ekb
  go_loopw [25] (fun p wr => ∃ (i : Nat) (b : Bool), i ≤ n ∧ p = .int .i64 i ∧ wr.heap[kb]? = some (.cells #[.bool b] 4 (0, 0)) ∧ (b = true ↔ (r0 = root ∧ ∀ j, j < i → txSee ws l (S.getD j 0 + 8) = (ndI nds j).l ∧ txSee ws l (S.getD j 0 + 16) = (ndI nds j).r)) ∧ (w2.alloc (.cells #[.bool ((r0 : Int) == (root : Int))] 4)).grownBy wr (some kb)) (fun p _ => n - (intOf p).toNat)
  case atStart => exact ⟨0, _, Nat.zero_le _, rfl, HK0.out, by rw [HR.out]; exact ⟨fun h => ⟨h, fun j hj => by omega⟩, fun h => h.1⟩, grown_refl _ _⟩
  case round =>
    obtain ⟨i, b, hi, rfl, hkr, hiff, hgr⟩ := hrel
    have hgwr := HGW.out _ hgr
    by_cases hin : i < n
    · have hin' : (i : Int) < (n : Int) := by omega
      have hNr := HN2.out.later hgr (by simp; omega)
      have hWr := (hgr.block _ (lt_of_block HW2.out) (by simp; omega)).trans HW2.out
      obtain ⟨c0, c1, c2, c3⟩ := hNr.cell (k := i) (by omega)
      obtain ⟨nd, hnd⟩ : ∃ nd, ndI nds i = nd := ⟨_, rfl⟩
      have hnd2 : nds.getD i default = nd := hnd
      rw [hnd2] at c0 c1 c2 c3
      have hoi := HO.out i hin
      rw [hnd] at hoi
      have hga := World.grownBy_alloc wr (.cells #[.int .u64 (nd.s : Nat), .int .u64 (nd.o : Nat), .int .u64 (nd.l : Nat), .int .u64 (nd.r : Nat)] 159) none
      have hsc := sons_check (HTH.out.later (grown_trans hgwr hga)) nd (by rw [hoi]; exact HS64.out i hin) kb w.heap.size b (two_held1 hkr hga) (two_held1 hWr hga)
      have HIF := Lib.hid hiff
      have HND := Lib.hid hnd
      have HOI := Lib.hid hoi
      have HKR := Lib.hid hkr
      have hna := heap_alloc_new' wr (.cells #[.int .u64 (nd.s : Nat), .int .u64 (nd.o : Nat), .int .u64 (nd.l : Nat), .int .u64 (nd.r : Nat)] 159)
      obtain ⟨m0, m1, m2, m3⟩ := four_cells hna
      clear hiff hnd hnd2 hoi hkr hNr hWr hna
      go_wp2_with (first | (go_at_call 83; (with_reducible refine hsc.mono ?_); rintro e w3 ⟨rfl, hk3, hg3⟩))
      go_roundw
      case rel =>
        refine ⟨i + 1, _, by omega, by go_num, hk3, ?_, grown_trans hgr (grown_trans (grown_any hga _) hg3)⟩
        rw [Bool.and_eq_true, Bool.and_eq_true, HIF.out, decide_eq_true_iff, decide_eq_true_iff, HOI.out]
        constructor
        · rintro ⟨⟨⟨h1, h2⟩, h3⟩, h4⟩
          refine ⟨h1, fun j hj => ?_⟩
          rcases Nat.lt_succ_iff_lt_or_eq.1 hj with h5 | rfl
          · exact h2 j h5
          · rw [HND.out]; exact ⟨h3, h4⟩
        · rintro ⟨h1, h2⟩
          have h3 := h2 i (by omega)
          rw [HND.out] at h3
          exact ⟨⟨⟨h1, fun j hj => h2 j (by omega)⟩, h3.1⟩, h3.2⟩
      case measure => simp [intOf]; omega
    · obtain rfl : i = n := by omega
      have k0 := cell_of_one hkr
      have HIF := Lib.hid hiff
      clear hiff
      go_wp2
      go_ret
      refine ⟨hgwr, b, rfl, ?_⟩
      rw [HIF.out]
      have hat : ∀ x, x ∈ S → ∃ j, j < i ∧ S.getD j 0 = x := fun x hx => by
        obtain ⟨j, hj, e⟩ := List.mem_iff_getElem.1 hx
        exact ⟨j, by have := HSL.out; omega, by rw [List.getD_eq_getElem?_getD, List.getElem?_eq_getElem hj]; exact e⟩
      constructor
      · rintro ⟨h1, h2⟩
        refine HTR.out.carry (fun x hx => ?_) h1
        obtain ⟨j, hj, rfl⟩ := hat x hx
        have h3 := HNS.out.sons j (by omega)
        rw [HO.out j hj] at h3
        have h4 := h2 j hj
        exact ⟨h4.1.trans h3.1.symm, h4.2.trans h3.2.symm⟩
      · intro ht
        obtain ⟨h1, h2⟩ := ht.same HTR.out
        refine ⟨h1, fun j hj => ?_⟩
        have h3 := HNS.out.sons j (by omega)
        rw [HO.out j hj] at h3
        have h4 := h2 (S.getD j 0) (by rw [List.getD_eq_getElem?_getD, List.getElem?_eq_getElem (by have := HSL.out; omega)]; exact List.getElem_mem _)
        exact ⟨h4.1.trans h3.1, h4.2.trans h3.2⟩
end
end Go.Proofs.YtmcnpenihoaajaaGreat
namespace Go.Proofs.YtmcnpenihoaajaaGreat
open Go.RowKit
def TW (w0 w : World) (T : Nat) (R : Option Nat) (ws : List Nat) (z : Nat → Nat) (F L : List Nat) : Prop :=
  ∃ M B D l, Txs w0 w T M R B D ws l ∧ Bed ws l z F ∧ TreeIs (txSee ws l) z F L
section
variable {w0 w w' w2 : World} {T : Nat} {R R' R2 : Option Nat} {ws : List Nat} {z : Nat → Nat} {F L K : List Nat} {off base : Nat} {v : Value} {xs : List Nat} {la : Option Addr} {c : Nat}
theorem TW.later (h : TW w0 w T R ws z F L) (hg : w.grownBy w' none) : TW w0 w' T R ws z F L := by
  obtain ⟨M, B, D, l, h1, h2, h3⟩ := h
  exact ⟨M, B, D, l, h1.later hg, h2, h3⟩
theorem TW.since (h : TW w0 w T R ws z F L) : w0.grownBy w none := by
  obtain ⟨M, B, D, l, h1, h2, h3⟩ := h
  exact h1.since
theorem TW.nodup (h : TW w0 w T R ws z F L) : L.Nodup := by
  obtain ⟨M, B, D, l, h1, h2, h3⟩ := h
  exact h3.nodup
theorem TW.sub (h : TW w0 w T R ws z F L) : ∀ x, x ∈ L → x ∈ F := by
  obtain ⟨M, B, D, l, h1, h2, h3⟩ := h
  exact h3.sub
theorem TW.free (h : TW w0 w T R ws z F L) : FreeL F := by
  obtain ⟨M, B, D, l, h1, h2, h3⟩ := h
  exact h3.free
theorem short_of : ∀ (n : Nat) {L : List Nat}, L.Nodup → (∀ x, x ∈ L → x < n) → L.length ≤ n
  | 0, L, _, h => by
    cases L with
    | nil => exact Nat.le_refl _
    | cons a L => exact absurd (h a (by simp)) (Nat.not_lt_zero _)
  | n + 1, L, hn, h => by
    by_cases hm : n ∈ L
    · have h1 := (List.perm_cons_erase hm).length_eq
      have h2 := short_of n (L := L.erase n) (hn.erase n) fun x hx => by
        have h3 := (hn.mem_erase_iff).1 hx
        have h4 := h x h3.2
        have h5 := h3.1
        omega
      simp only [List.length_cons] at h1
      omega
    · have := short_of n hn fun x hx => by
        have h4 := h x hx
        have h5 : x ≠ n := fun e => hm (e ▸ hx)
        omega
      omega
theorem FreeL.few (h : FreeL F) (hs : ∀ x, x ∈ L → x ∈ F) (hn : L.Nodup) : L.length ≤ 4800 :=
  short_of 4800 hn fun x hx => by
    have := h.on x (hs x hx)
    omega
end
end Go.Proofs.YtmcnpenihoaajaaGreat
namespace Go.Proofs.YtmcnpenihoaajaaGreat
open Go.RowKit
theorem lie_at {w : World} {base : Nat} {a : Option Addr} {n c : Nat} {l : List Nat} (h : OwnW w base (.slice a n c) l) : WordsAt w a l := by
  obtain ⟨a', c', e, h'⟩ := h.lie
  cases e
  exact h'
theorem KW.lie {w : World} {R : Option Nat} {base : Nat} {a : Option Addr} {n c : Nat} {l : List Nat} (h : KW w R base (.slice a n c) l) : WordsAt w a l := lie_at h.1
theorem KW.own {w : World} {R : Option Nat} {base : Nat} {v : Value} {l : List Nat} (h : KW w R base v l) : OwnW w base v l := h.1
theorem KW.new {w0 w w' : World} {T : Nat} {R : Option Nat} {ws : List Nat} {z : Nat → Nat} {F L xs : List Nat} {v : Value} {base : Nat} (h : TW w0 w T R ws z F L) (ho : OwnW w' base v xs) (hb : w.heap.size ≤ base) : KW w' R base v xs := by
  refine ⟨ho, fun g hg e => ?_⟩
  obtain ⟨M, B, D, l, h1, _, _⟩ := h
  have h2 := h1.tx.ltR e
  have h3 := (World.ownsRow.lt ho g hg).1
  omega
theorem KW.cap {w : World} {R : Option Nat} {base : Nat} {a : Option Addr} {n c : Nat} {l : List Nat} (h : KW w R base (.slice a n c) l) : n ≤ c := by
  obtain ⟨a', c', e, _⟩ := h.1.lie
  rcases h.1.2 with h9 | ⟨_, _, _, h9, _, _, h10, _⟩
  · injection e with _ e _
    have := h9.2
    omega
  · injection e with _ e _
    injection h9 with _ _ h9
    omega
theorem TW.row {w0 w w' : World} {T : Nat} {R : Option Nat} {ws : List Nat} {z : Nat → Nat} {F L J : List Nat} {v : Value} {base : Nat} (X : TW w0 w T R ws z F L) (K : KW w R base v J) (hb : w0.heap.size ≤ base) (hg : w.grownBy w' v.ownBlock) : TW w0 w' T R ws z F L := by
  obtain ⟨M, B, D, l, h1, h2, h3⟩ := X
  refine ⟨M, B, D, l, ⟨h1.tx.turned (Turned.of_grown hg) (fun k hk => ?_), grown_step h1.since hg (fun i hi => .inl (Nat.le_trans hb (World.ownsRow.lt K.1 i hi).1)), h1.newT, h1.newM, h1.newR, h1.newB, h1.newD⟩, h2, h3⟩
  obtain ⟨_, cur, hbk⟩ := row_block K.1 hk
  obtain ⟨tv, k1, _⟩ := h1.tx.head
  obtain ⟨Da, k2, _⟩ := h1.tx.map
  obtain ⟨es, clock, k2⟩ := map_block k2
  refine ⟨?_, fun e => ne_type hbk h1.tx.seg.head (by decide) e, fun e => ne_type hbk h1.tx.seg.data (by decide) e⟩
  rintro (e | e | e)
  · exact ne_type hbk k1 (by decide) e
  · exact ne_map hbk k2 e
  · exact K.2 k hk e
theorem TW.app {w0 w w' : World} {T : Nat} {R : Option Nat} {ws : List Nat} {z : Nat → Nat} {F L J F' : List Nat} {v v' fv : Value} {base y : Nat} (X : TW w0 w T R ws z F L) (K : KW w R base v J) (hb : w0.heap.size ≤ base) (KF : KW w R w0.heap.size fv F') (hne : ∀ g, fv.ownBlock = some g → v.ownBlock ≠ some g)
    (hg : w.grownBy w' v.ownBlock) (hl : v'.ownBlock = v.ownBlock ∨ v'.ownBlock = some (w.heap.size + 1)) (ho : OwnW w' base v' (J ++ [y])) : TW w0 w' T R ws z F L ∧ KW w' R base v' (J ++ [y]) ∧ KW w' R w0.heap.size fv F' := by
  refine ⟨X.row K hb hg, ⟨ho, fun g e e2 => ?_⟩, ⟨World.ownsRow.kept KF.1 hg ?_, KF.2⟩⟩
  · rcases hl with h | h
    · exact K.2 g (by rw [← h]; exact e) e2
    · rw [h] at e
      obtain ⟨M, B, D, l, h1, _, _⟩ := X
      have h2 := h1.tx.ltR e2
      injection e with e
      omega
  · by_cases e : fv.ownBlock = none
    · exact .inl e
    · obtain ⟨g, hg2⟩ := Option.ne_none_iff_exists'.1 e
      refine .inr fun e2 => ?_
      rw [hg2] at e2
      exact hne g hg2 (e2.symm ▸ rfl)
end Go.Proofs.YtmcnpenihoaajaaGreat
