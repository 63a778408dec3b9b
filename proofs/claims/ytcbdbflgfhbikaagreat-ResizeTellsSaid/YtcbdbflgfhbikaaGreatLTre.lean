/-
  Texts of one layer, one behind the other: memory, contracts of the functions, and what follows of them.
  Conditions: as each theorem says.
-/
import Derived.Test.YtcbdbflgfhbikaaGreatLTrd
import Derived.Test.YtcbdbflgfhbikaaGreatLTrc
set_option linter.unusedVariables false
set_option linter.unusedSimpArgs false
namespace Go.Proofs.YtcbdbflgfhbikaaGreat
open Go.RowKit
set_option maxRecDepth 100000
def JoinE (g z : Nat → Nat) (F U : List Nat) (lk left right : Nat) : Prop := ∃ k, JoinAt g z F U lk left right k
section
variable {w : World} {T M : Nat} {R : Option Nat} {B D : Nat} {ws : List Nat} {l l' : List (Nat × Nat)} {z : Nat → Nat} {F S U lst : List Nat} {off lk n k v left right : Nat}
theorem JoinE.lt {g : Nat → Nat} (hU : Lot F U) (h : JoinE g z F U lk left right) : LinkOf F lk ∧ left < 18446744073709551600 ∧ right < 18446744073709551600 ∧ (left ≠ 0 → rkN left ≠ rkN right) ∧ (left ≠ 0 → left ∈ F) ∧ (right ≠ 0 → right ∈ F) := by
  obtain ⟨k, h⟩ := h
  obtain ⟨h1, h2, h3⟩ := h.mem
  have hF : ∀ {x}, x ∈ U → x < 18446744073709551600 := fun {x} hx => by have := hU.free.on x (hU.sub x hx); omega
  have hl : left < 18446744073709551600 := by
    by_cases e : left = 0
    · omega
    · exact hF (h1 e)
  have hr : right < 18446744073709551600 := by
    by_cases e : right = 0
    · omega
    · exact hF (h2 e)
  exact ⟨h.link, hl, hr, fun e e2 => h3 e hU.nodup (rkN_inj (by omega) (by omega) e2), fun e => hU.sub _ (h1 e), fun e => hU.sub _ (h2 e)⟩
set_option maxHeartbeats 4000000 in
theorem tjoin_any (h : Thinks w T M R B D ws l) (hB : Bed ws l z F) (hU : Lot F U) (hJ : JoinE (txSee ws l) z F U lk left right) :
    Calls Tryz.prog 93 #[.agg #[.pointer (some ⟨T, 0, none⟩)], .int .u64 lk, .int .u64 left, .int .u64 right] w fun e w' => e = .returned (.tuple #[]) ∧ ∃ l', Thought w T M R B D ws l' w' ∧ TreeOf (txSee ws l') rkN (txSee ws l' 32) U ∧ Kept F (txSee ws l) (txSee ws l') := by
  obtain ⟨f, ef⟩ : ∃ f, txSee ws l = f := ⟨_, rfl⟩
  rw [ef] at hJ ⊢
  have hmix := fun x w => mix_rk x w
  have hg0 : w.grownBy (w.alloc (.cells #[.pointer (some ⟨T, 0, none⟩)] 135)) none := World.grownBy_alloc _ _ _
  have ha : (w.alloc (.cells #[.pointer (some ⟨T, 0, none⟩)] 135)).heap[w.heap.size]? = some (.cells #[.pointer (some ⟨T, 0, none⟩)] 135 (0, 0)) := heap_alloc_new' _ _
  obtain ⟨W, hW⟩ : ∃ W, w.alloc (.cells #[.pointer (some ⟨T, 0, none⟩)] 135) = W := ⟨_, rfl⟩
  rw [hW] at ha hg0
  have hTW := h.later hg0
  have hbox : ∀ {wr : World} {l2 : List (Nat × Nat)}, Thought W T M R B D ws l2 wr → wr.heap[w.heap.size]? = some (.cells #[.pointer (some ⟨T, 0, none⟩)] 135 (0, 0)) := fun {wr l2} ⟨R', k1, k2, k3⟩ => k2.heap ha (hTW.far ha (by decide) (by decide))
  have HB := Lib.hid hB
  have HU := Lib.hid hU
  have HJ := Lib.hid hJ
  have HTW := Lib.hid (Thought.same hTW (grown_refl W none))
  have HG0 := Lib.hid hg0
  have HEF := Lib.hid ef
  clear hB hU ha hTW h hg0 ef hJ
  go_enter Tryz.func93, Tryz.ntmps93
  go_wp2
  go_loopw [1, 2, 3] (fun p q j wr => ∃ lk left right l2, p = .int .u64 (lk : Nat) ∧ q = .int .u64 (left : Nat) ∧ j = .int .u64 (right : Nat) ∧ JoinE (txSee ws l2) z F U lk left right ∧ Kept F f (txSee ws l2) ∧ Thought W T M R B D ws l2 wr) (fun p q j _ => rkN (intOf q).toNat + rkN (intOf j).toNat)
  case atStart => exact ⟨lk, left, right, l, rfl, rfl, rfl, HEF.out ▸ HJ.out, by rw [HEF.out]; exact Kept.refl, HTW.out⟩
  case round =>
    obtain ⟨lk, left, right, l2, rfl, rfl, rfl, hS, hK, hTh⟩ := hrel
    have X1 := hbox hTh
    obtain ⟨R2, ht2, hq2, hr2⟩ := hTh
    have hBl := HB.out.kept (l' := l2) (HEF.out.symm ▸ hK)
    obtain ⟨hk, hl64, hr64, hne, hlF, hrF⟩ := hS.lt HU.out
    have HK := Lib.hid hK
    have HS := Lib.hid hS
    have c0 := cell_of_one X1
    clear hS hK HJ
    by_cases h0 : left = 0 ∨ right = 0
    · have hfin : ∀ m : Nat, m < 18446744073709551616 → Calls Tryz.prog 99 #[.agg #[.pointer (some ⟨T, 0, none⟩)], .int .u64 lk, .int .u64 m] wr _ := fun m hm => tlead_any ht2 lk m (hBl.stand hk).1 (hBl.stand hk).2 hm
      have HKP := Lib.hid (fun (l3 : List (Nat × Nat)) (hl : Led ws l2 lk (max left right) l3) => (show TreeOf (txSee ws l3) rkN (txSee ws l3 32) U ∧ Kept F f (txSee ws l3) by
        obtain ⟨k, hk0⟩ := HS.out
        exact ⟨join_end HU.out hk0 h0 hl.off hl.at_, HK.out.trans (Kept.put hk hl.off)⟩))
      clear hne hlF hrF
      by_cases hl0 : left = 0
      · subst hl0
        rw [Nat.zero_max] at HKP
        by_cases hr0 : right = 0
        · subst hr0
          have hf1 : Calls Tryz.prog 99 #[.agg #[.pointer (some ⟨T, 0, none⟩)], .int .u64 lk, .int .u64 0] wr _ := hfin 0 (by omega)
          clear hfin h0 hk hBl
          go_wp2_with (first | (go_at_call 99; (with_reducible refine hf1.mono ?_); rintro e w3 ⟨rfl, l3, ht3, hl3⟩))
          go_end0
          obtain ⟨q1, q2⟩ := HKP.out l3 hl3
          exact ⟨rfl, l3, Thought.first HG0.out (Thought.trans hq2 hr2 ht3), q1, q2⟩
        · have hf1 := hfin right (by omega)
          have hr0' : ¬ (right : Int) = 0 := by omega
          have hr0'' : (0 : Int) < (right : Int) := by omega
          clear hfin h0 hk hBl hr0
          go_wp2_with (first | (go_at_call 99; (with_reducible refine hf1.mono ?_); rintro e w3 ⟨rfl, l3, ht3, hl3⟩))
          go_end0
          obtain ⟨q1, q2⟩ := HKP.out l3 hl3
          exact ⟨rfl, l3, Thought.first HG0.out (Thought.trans hq2 hr2 ht3), q1, q2⟩
      · obtain rfl : right = 0 := by omega
        rw [Nat.max_zero] at HKP
        have hf1 := hfin left (by omega)
        have hl0' : ¬ (left : Int) = 0 := by omega
        have hr0'' : (0 : Int) < (left : Int) := by omega
        clear hfin h0 hk hBl hl0
        go_wp2_with (first | (go_at_call 99; (with_reducible refine hf1.mono ?_); rintro e w3 ⟨rfl, l3, ht3, hl3⟩))
        go_end0
        obtain ⟨q1, q2⟩ := HKP.out l3 hl3
        exact ⟨rfl, l3, Thought.first HG0.out (Thought.trans hq2 hr2 ht3), q1, q2⟩
    · have hl0 : left ≠ 0 := by omega
      have hr0 : right ≠ 0 := by omega
      have hl0' : ¬ (left : Int) = 0 := by omega
      have hr0' : ¬ (right : Int) = 0 := by omega
      have hne2 := hne hl0
      have hb1 : ((left : Int) != 0) = true := by simpa using hl0
      have hb2 : ((right : Int) != 0) = true := by simpa using hr0
      by_cases hr : rkN right < rkN left
      · have hr' : ((rkN right : Nat) : Int) < (rkN left : Nat) := by omega
        have hlead := tlead_any ht2 lk left (hBl.stand hk).1 (hBl.stand hk).2 (by omega)
        have HNX := Lib.hid (fun (l3 : List (Nat × Nat)) (hl : Led ws l2 lk left l3) => (show _ from (HS.out.elim fun k hk0 => join_left HU.out hk0 hl0 (by omega) hl.off hl.at_)))
        have HKP := Lib.hid (fun (l3 : List (Nat × Nat)) (hl : Led ws l2 lk left l3) => HK.out.trans (Kept.put hk hl.off))
        obtain ⟨n8, e8⟩ : ∃ q, left + 16 = q := ⟨_, rfl⟩
        have e9 : IntKind.u64.wrap ((left : Int) + 16) = (n8 : Nat) := by rw [IntKind.wrap_u64]; omega
        have hn8 : n8 < 18446744073709551616 := by omega
        rw [e8] at HNX
        have HRP := Lib.hid (rank_pos hl0 (by omega))
        clear hk hBl hl0 hr0 e8 hr hne hlF hrF h0 hl64 hr64 hne2
        go_wp2_with (first | (go_at_call 128; (with_reducible refine (hmix _ _).mono ?_); rintro e w3 ⟨rfl, rfl⟩) | (go_at_call 99; (with_reducible refine hlead.mono ?_); rintro e w6 ⟨rfl, l3, ⟨R3, ht3, hq3, hr3⟩, hl3⟩; have c6 := cell_of_one (hq3.heap X1 (ht2.far X1 (by decide) (by decide))); have hld := txload_any ht3 n8 hn8; obtain ⟨y, hy⟩ : ∃ y, txSee ws l3 n8 = y := ⟨_, rfl⟩; rw [hy] at hld; have HY := Lib.hid hy; clear hy) | (go_at_call 17; (with_reducible refine hld.mono ?_); rintro e w7 ⟨rfl, hg7⟩))
        go_roundw
        case rel => exact ⟨n8, y, right, l3, by go_num, by go_num, by go_num, HY.out ▸ (HNX.out l3 hl3).1, HKP.out l3 hl3, Thought.trans hq2 hr2 (Thought.later ⟨R3, ht3, hq3, hr3⟩ hg7)⟩
        case measure =>
          have := rank_son (HY.out ▸ (HNX.out l3 hl3).2) HRP.out
          simp only [intOf, Int.toNat_natCast]
          omega
      · have hr' : ¬ ((rkN right : Nat) : Int) < (rkN left : Nat) := by omega
        have hlead := tlead_any ht2 lk right (hBl.stand hk).1 (hBl.stand hk).2 (by omega)
        have HNX := Lib.hid (fun (l3 : List (Nat × Nat)) (hl : Led ws l2 lk right l3) => (show _ from (HS.out.elim fun k hk0 => join_right HU.out hk0 hr0 (by omega) hl.off hl.at_)))
        have HKP := Lib.hid (fun (l3 : List (Nat × Nat)) (hl : Led ws l2 lk right l3) => HK.out.trans (Kept.put hk hl.off))
        obtain ⟨n8, e8⟩ : ∃ q, right + 8 = q := ⟨_, rfl⟩
        have e9 : IntKind.u64.wrap ((right : Int) + 8) = (n8 : Nat) := by rw [IntKind.wrap_u64]; omega
        have hn8 : n8 < 18446744073709551616 := by omega
        rw [e8] at HNX
        have HRP := Lib.hid (rank_pos hr0 (by omega))
        clear hk hBl hl0 hr0 e8 hr hne hlF hrF h0 hl64 hr64 hne2
        go_wp2_with (first | (go_at_call 128; (with_reducible refine (hmix _ _).mono ?_); rintro e w3 ⟨rfl, rfl⟩) | (go_at_call 99; (with_reducible refine hlead.mono ?_); rintro e w6 ⟨rfl, l3, ⟨R3, ht3, hq3, hr3⟩, hl3⟩; have c6 := cell_of_one (hq3.heap X1 (ht2.far X1 (by decide) (by decide))); have hld := txload_any ht3 n8 hn8; obtain ⟨y, hy⟩ : ∃ y, txSee ws l3 n8 = y := ⟨_, rfl⟩; rw [hy] at hld; have HY := Lib.hid hy; clear hy) | (go_at_call 17; (with_reducible refine hld.mono ?_); rintro e w7 ⟨rfl, hg7⟩))
        go_roundw
        case rel => exact ⟨n8, left, y, l3, by go_num, by go_num, by go_num, HY.out ▸ (HNX.out l3 hl3).1, HKP.out l3 hl3, Thought.trans hq2 hr2 (Thought.later ⟨R3, ht3, hq3, hr3⟩ hg7)⟩
        case measure =>
          have := rank_son (HY.out ▸ (HNX.out l3 hl3).2) HRP.out
          simp only [intOf, Int.toNat_natCast]
          omega
end
end Go.Proofs.YtcbdbflgfhbikaaGreat
namespace Go.Proofs.YtcbdbflgfhbikaaGreat
open Go.RowKit
set_option maxRecDepth 100000
def ndI (nds : List Nd) (i : Nat) : Nd := nds.getD i default
theorem ndI_set (nds : List Nd) (k j : Nat) (a : Nd) (hk : k < nds.length) : ndI (nds.set k a) j = if k = j then a else ndI nds j := by
  unfold ndI
  rw [List.getD_eq_getElem?_getD, List.getElem?_set]
  by_cases e : k = j
  · rw [if_pos e, if_pos (by omega), if_pos e]; rfl
  · rw [if_neg e, if_neg e, ← List.getD_eq_getElem?_getD]
structure NSay (g : Nat → Nat) (root : Nat) (nds : List Nd) : Prop where
  root : g 32 = root
  sons : ∀ i, i < nds.length → g ((ndI nds i).o + 8) = (ndI nds i).l ∧ g ((ndI nds i).o + 16) = (ndI nds i).r
structure ShI (w wr : World) (ab gb n : Nat) (S : List Nat) (v : Value) (nds : List Nd) (es : List Nat) (root k : Nat) : Prop where
  nodes : NodesAt wr gb nds
  len : nds.length = n
  offs : ∀ j, j < n → (ndI nds j).o = S.getD j 0
  above : wr.heap[ab]? = some (.cells #[.int .u64 0, .int .u64 0, .int .u64 0, .int .u64 (root : Nat)] 142 (0, 0))
  edge : OwnE wr (ab + 1) v ab gb es
  ahead : ∀ e, e ∈ es → e < k
  spine : ∃ g b, NSay g root nds ∧ Spine g 32 (es.map fun i => S.getD i 0) b (S.take k) ∧ g b = 0
  rest : ∀ j, k ≤ j → j < n → (ndI nds j).l = 0 ∧ (ndI nds j).r = 0
  grown : w.grownBy wr none
  at_ : w.heap.size ≤ gb ∧ gb < ab
  short : es.length ≤ k
def shE (S es : List Nat) : List Nat := es.map fun i => S.getD i 0
theorem shE_len (S es : List Nat) : (shE S es).length = es.length := by simp [shE]
theorem shE_get (S es : List Nat) (j : Nat) (h : j < es.length) : (shE S es).getD j 0 = S.getD (es.getD j 0) 0 := by
  unfold shE
  rw [List.getD_eq_getElem?_getD, List.getElem?_map, List.getElem?_eq_getElem h, List.getD_eq_getElem?_getD (l := es), List.getElem?_eq_getElem h]
  rfl
theorem shE_take (S es : List Nat) (k : Nat) : shE S (es.take k) = (shE S es).take k := by simp [shE, List.map_take]
theorem shE_snoc (S es : List Nat) (k : Nat) : shE S (es ++ [k]) = shE S es ++ [S.getD k 0] := by simp [shE]
section
variable {w wr wq : World} {ab gb n k t root : Nat} {S es F : List Nat} {v : Value} {nds : List Nd} {g : Nat → Nat}
structure ShP (wr wq : World) (gb n : Nat) (S es : List Nat) (nds : List Nd) (k t : Nat) : Prop where
  le : t ≤ es.length
  nodes : NodesAt wq gb (nds.set k { ndI nds k with l := popL (shE S es) t })
  popped : ∀ j, t ≤ j → j < es.length → rkN ((shE S es).getD j 0) < rkN (S.getD k 0)
  grown : wr.grownBy wq (some gb)
theorem ShI.pop0 (h : ShI w wr ab gb n S v nds es root k) (hk : k < n) : ShP wr wr gb n S es nds k es.length where
  le := Nat.le_refl _
  nodes := by
    have e : popL (shE S es) es.length = 0 := by
      unfold popL
      rw [List.getD_eq_getElem?_getD, List.getElem?_eq_none (by rw [shE_len]; exact Nat.le_refl _)]; rfl
    have hr := (h.rest k (Nat.le_refl _) hk).1
    rw [e]
    have : nds.set k { ndI nds k with l := 0 } = nds := by
      have hx : ({ ndI nds k with l := 0 } : Nd) = ndI nds k := by rw [← hr]
      rw [hx]
      apply List.ext_getElem?
      intro j
      rw [List.getElem?_set]
      by_cases e : k = j
      · subst e
        rw [if_pos rfl, if_pos (by rw [h.len]; exact hk)]
        unfold ndI
        rw [List.getD_eq_getElem?_getD, List.getElem?_eq_getElem (by rw [h.len]; exact hk)]
        rfl
      · rw [if_neg e]
    rw [this]
    exact h.nodes
  popped := fun j h1 h2 => by omega
  grown := grown_refl _ _
theorem set_set_same (nds : List Nd) (k : Nat) (a b : Nd) : (nds.set k a).set k b = nds.set k b := by simp
theorem ShP.pop (h : ShP wr wq gb n S es nds k t) (hlen : nds.length = n) (hk : k < n) (ht : 0 < t) (hr : rkN ((shE S es).getD (t - 1) 0) < rkN (S.getD k 0)) : ShP wr (wq.setCell ⟨gb, k * 4 + 2, none⟩ (.int .u64 ((shE S es).getD (t - 1) 0 : Nat))) gb n S es nds k (t - 1) where
  le := by have := h.le; omega
  nodes := by
    have h1 := h.nodes.setL (k := k) (by simp; omega) ((shE S es).getD (t - 1) 0)
    rw [set_set_same] at h1
    have e : ({ (nds.set k { ndI nds k with l := popL (shE S es) t }).getD k default with l := (shE S es).getD (t - 1) 0 } : Nd) = { ndI nds k with l := popL (shE S es) (t - 1) } := by
      have := ndI_set nds k k { ndI nds k with l := popL (shE S es) t } (by omega)
      unfold ndI at this ⊢
      rw [this, if_pos rfl]
      rfl
    rw [e] at h1
    exact h1
  popped := fun j h1 h2 => by
    by_cases e : j = t - 1
    · rw [e]; exact hr
    · exact h.popped j (by omega) h2
  grown := grown_trans h.grown (grown_set _ _ _ _)
def upd2 (g : Nat → Nat) (a u b v : Nat) : Nat → Nat := fun q => if q = b then v else if q = a then u else g q
theorem NSay.step (h : NSay g root nds) (hlen : nds.length = n) (ho : ∀ j, j < n → (ndI nds j).o = S.getD j 0) (hF : FreeL F) (hS : ∀ j, j < n → S.getD j 0 ∈ F) (hnd : ∀ i j, i < n → j < n → S.getD i 0 = S.getD j 0 → i = j) (hk : k < n) (u : Nat) :
    NSay (upd2 g (S.getD k 0 + 8) u 32 (S.getD k 0)) (S.getD k 0) (nds.set k { ndI nds k with l := u }) ∧
    ∀ e, e < n → e ≠ k → NSay (upd2 g (S.getD k 0 + 8) u (S.getD e 0 + 16) (S.getD k 0)) root ((nds.set k { ndI nds k with l := u }).set e { ndI (nds.set k { ndI nds k with l := u }) e with r := S.getD k 0 }) := by
  have h32 : ∀ j, j < n → S.getD j 0 + 8 ≠ 32 ∧ S.getD j 0 + 16 ≠ 32 := fun j hj => by have := hF.on _ (hS j hj); omega
  have far : ∀ i j, i < n → j < n → i ≠ j → S.getD i 0 + 48 ≤ S.getD j 0 ∨ S.getD j 0 + 48 ≤ S.getD i 0 := fun i j hi hj hne => hF.far (hS i hi) (hS j hj) fun e => hne (hnd i j hi hj e)
  constructor
  · refine ⟨by unfold upd2; rw [if_pos rfl], fun i hi => ?_⟩
    have hi' : i < n := by simpa [hlen] using hi
    have hi2 := h32 i hi'
    have hs := h.sons i (by omega)
    rw [ho i hi'] at hs
    rw [ndI_set nds k i _ (by omega)]
    by_cases e : k = i
    · subst e
      rw [if_pos rfl]
      show upd2 _ _ _ _ _ ((ndI nds k).o + 8) = u ∧ upd2 _ _ _ _ _ ((ndI nds k).o + 16) = (ndI nds k).r
      rw [ho k hk]
      unfold upd2
      rw [if_neg hi2.1, if_pos rfl, if_neg hi2.2, if_neg (by omega)]
      exact ⟨rfl, hs.2⟩
    · rw [if_neg e, ho i hi']
      have hf := far i k hi' hk (fun e2 => e e2.symm)
      unfold upd2
      rw [if_neg hi2.1, if_neg (by omega), if_neg hi2.2, if_neg (by omega)]
      exact hs
  · intro e he hek
    refine ⟨?_, fun i hi => ?_⟩
    · unfold upd2
      rw [if_neg (by have := (h32 e he).2; omega), if_neg (by have := (h32 k hk).1; omega)]
      exact h.root
    · have hi' : i < n := by simpa [hlen] using hi
      have hs := h.sons i (by omega)
      rw [ho i hi'] at hs
      rw [ndI_set _ e i _ (by simp; omega)]
      have hfk := far e k he hk hek
      by_cases e1 : e = i
      · subst e1
        rw [if_pos rfl]
        have e3 : ndI (nds.set k { ndI nds k with l := u }) e = ndI nds e := by rw [ndI_set nds k e _ (by omega), if_neg (fun e2 => hek e2.symm)]
        rw [e3]
        show upd2 _ _ _ _ _ ((ndI nds e).o + 8) = (ndI nds e).l ∧ upd2 _ _ _ _ _ ((ndI nds e).o + 16) = S.getD k 0
        rw [ho e he]
        unfold upd2
        rw [if_neg (by omega), if_neg (by omega), if_pos rfl]
        exact ⟨hs.1, rfl⟩
      · rw [if_neg e1, ndI_set nds k i _ (by omega)]
        have hf1 := far e i he hi' e1
        by_cases e2 : k = i
        · subst e2
          rw [if_pos rfl]
          show upd2 _ _ _ _ _ ((ndI nds k).o + 8) = u ∧ upd2 _ _ _ _ _ ((ndI nds k).o + 16) = (ndI nds k).r
          rw [ho k hk]
          unfold upd2
          rw [if_neg (by omega), if_pos rfl, if_neg (by omega), if_neg (by omega)]
          exact ⟨rfl, hs.2⟩
        · rw [if_neg e2, ho i hi']
          have hf2 := far i k hi' hk (fun e => e2 e.symm)
          unfold upd2
          rw [if_neg (by omega), if_neg (by omega), if_neg (by omega), if_neg (by omega)]
          exact hs
structure SOk (F S : List Nat) (n : Nat) : Prop where
  free : FreeL F
  len : S.length = n
  sub : ∀ x, x ∈ S → x ∈ F
  nodup : S.Nodup
theorem SOk.mem (h : SOk F S n) {j : Nat} (hj : j < n) : S.getD j 0 ∈ S := by
  rw [List.getD_eq_getElem?_getD, List.getElem?_eq_getElem (by rw [h.len]; exact hj)]
  exact List.getElem_mem _
theorem SOk.inj (h : SOk F S n) {i j : Nat} (hi : i < n) (hj : j < n) (e : S.getD i 0 = S.getD j 0) : i = j := by
  rw [List.getD_eq_getElem?_getD, List.getD_eq_getElem?_getD, List.getElem?_eq_getElem (by rw [h.len]; exact hi), List.getElem?_eq_getElem (by rw [h.len]; exact hj)] at e
  exact (List.getElem_inj h.nodup).1 e
theorem SOk.takeS (h : SOk F S n) {k : Nat} (hk : k < n) : S.take (k + 1) = S.take k ++ [S.getD k 0] := by
  rw [List.take_succ_eq_append_getElem (by rw [h.len]; exact hk), List.getD_eq_getElem?_getD, List.getElem?_eq_getElem (by rw [h.len]; exact hk)]
  rfl
theorem SOk.out (h : SOk F S n) {k : Nat} (hk : k < n) : S.getD k 0 ∉ S.take k := by
  have h1 := h.nodup
  rw [← List.take_append_drop k S, List.nodup_append] at h1
  intro hm
  refine h1.2.2 _ hm (S.getD k 0) ?_ rfl
  rw [List.getD_eq_getElem?_getD, List.getElem?_eq_getElem (by rw [h.len]; exact hk), List.drop_eq_getElem_cons (by rw [h.len]; exact hk)]
  exact List.mem_cons_self
theorem shI_spine {es : List Nat} {root : Nat} {nds : List Nd} {v : Value} (hS : SOk F S n) (h : ShI w wr ab gb n S v nds es root k) (hk : k < n) (ht : t ≤ es.length)
    (hp : ∀ j, t ≤ j → j < es.length → rkN ((shE S es).getD j 0) < rkN (S.getD k 0)) (hs : t = 0 ∨ rkN (S.getD k 0) < rkN ((shE S es).getD (t - 1) 0)) :
    ∃ g, NSay g root nds ∧ ∃ b, Spine (upd2 g (S.getD k 0 + 8) (popL (shE S es) t) (lkE (shE S es) t) (S.getD k 0)) 32 (shE S (es.take t ++ [k])) b (S.take (k + 1)) ∧ upd2 g (S.getD k 0 + 8) (popL (shE S es) t) (lkE (shE S es) t) (S.getD k 0) b = 0 := by
  obtain ⟨g, b, hN, hsp, hb⟩ := h.spine
  have hx := hS.sub _ (hS.mem hk)
  have h16 : g (S.getD k 0 + 16) = 0 := by
    have h1 := (hN.sons k (by rw [h.len]; exact hk)).2
    rw [h.offs k hk] at h1
    rw [h1, (h.rest k (Nat.le_refl _) hk).2]
  have hne : S.getD k 0 + 8 ≠ lkE (shE S es) t := by
    unfold lkE
    split
    · have := hS.free.on _ hx; omega
    · rename_i h0
      have hle : t - 1 < es.length := by omega
      rw [shE_get S es _ hle]
      have he := h.ahead (es.getD (t - 1) 0) (by rw [List.getD_eq_getElem?_getD, List.getElem?_eq_getElem hle]; exact List.getElem_mem _)
      have := hS.free.far hx (hS.sub _ (hS.mem (show es.getD (t - 1) 0 < n by omega))) (fun e => by have := hS.inj hk (by omega) e; omega)
      omega
  have := spine_pop (g' := upd2 g (S.getD k 0 + 8) (popL (shE S es) t) (lkE (shE S es) t) (S.getD k 0)) hS.free hsp hb (fun x hx => hS.sub x (List.mem_of_mem_take hx)) hx (hS.out hk) (hS.nodup.sublist (List.take_sublist _ _)) (by simpa using ht) (fun j h1 h2 => hp j h1 (by simpa using h2)) hs h16
    (fun q q1 q2 => by unfold upd2; rw [if_neg (show ¬ q = lkE (shE S es) t from q2), if_neg q1]) (by unfold upd2; rw [if_neg hne, if_pos rfl]; rfl) (by unfold upd2; exact if_pos rfl)
  refine ⟨g, hN, _, ?_, this.2⟩
  rw [hS.takeS hk, shE_snoc, shE_take]
  exact this.1
theorem ShI.next0 {es : List Nat} {root : Nat} {nds : List Nd} {v v' : Value} {w3 : World} (hS : SOk F S n) (h : ShI w wr ab gb n S v nds es root k) (hk : k < n)
    (hp : ShP wr wq gb n S es nds k 0) (h1 : NodesAt w3 gb (nds.set k { ndI nds k with l := popL (shE S es) 0 })) (h2 : w3.heap[ab]? = some (.cells #[.int .u64 0, .int .u64 0, .int .u64 0, .int .u64 (S.getD k 0 : Nat)] 142 (0, 0))) (h3 : OwnE w3 (ab + 1) v' ab gb (es.take 0 ++ [k])) (h4 : w.grownBy w3 none) :
    ShI w w3 ab gb n S v' (nds.set k { ndI nds k with l := popL (shE S es) 0 }) (es.take 0 ++ [k]) (S.getD k 0) (k + 1) := by
  obtain ⟨g, hN, b, hsp, hb⟩ := shI_spine hS h hk (Nat.zero_le _) hp.popped (.inl rfl)
  have hst := (hN.step h.len h.offs hS.free (fun j hj => hS.sub _ (hS.mem hj)) (fun i j hi hj => hS.inj hi hj) hk (popL (shE S es) 0)).1
  refine ⟨h1, by simp [h.len], fun j hj => ?_, h2, h3, fun e he => ?_, ⟨_, b, hst, hsp, hb⟩, fun j hj1 hj2 => ?_, h4, h.at_, by simp⟩
  · rw [ndI_set nds k j _ (by rw [h.len]; exact hk)]
    split
    · rename_i e; subst e; exact h.offs k hk
    · exact h.offs j hj
  · simp at he; omega
  · rw [ndI_set nds k j _ (by rw [h.len]; exact hk), if_neg (by omega)]
    exact h.rest j (by omega) hj2
theorem ShI.nextS {es : List Nat} {root : Nat} {nds : List Nd} {v v' : Value} {w3 : World} {e : Nat} (hS : SOk F S n) (h : ShI w wr ab gb n S v nds es root k) (hk : k < n) (ht : 0 < t) (he : es.getD (t - 1) 0 = e)
    (hp : ShP wr wq gb n S es nds k t) (hr : rkN (S.getD k 0) < rkN ((shE S es).getD (t - 1) 0))
    (h1 : NodesAt w3 gb ((nds.set k { ndI nds k with l := popL (shE S es) t }).set e { ndI (nds.set k { ndI nds k with l := popL (shE S es) t }) e with r := S.getD k 0 })) (h2 : w3.heap[ab]? = some (.cells #[.int .u64 0, .int .u64 0, .int .u64 0, .int .u64 (root : Nat)] 142 (0, 0))) (h3 : OwnE w3 (ab + 1) v' ab gb (es.take t ++ [k])) (h4 : w.grownBy w3 none) :
    ShI w w3 ab gb n S v' ((nds.set k { ndI nds k with l := popL (shE S es) t }).set e { ndI (nds.set k { ndI nds k with l := popL (shE S es) t }) e with r := S.getD k 0 }) (es.take t ++ [k]) root (k + 1) := by
  obtain ⟨g, hN, b, hsp, hb⟩ := shI_spine hS h hk hp.le hp.popped (.inr hr)
  have hle : t - 1 < es.length := by have := hp.le; omega
  have hem : e ∈ es := by
    rw [← he, List.getD_eq_getElem?_getD, List.getElem?_eq_getElem hle]
    exact List.getElem_mem _
  have hek := h.ahead e hem
  have hst := (hN.step h.len h.offs hS.free (fun j hj => hS.sub _ (hS.mem hj)) (fun i j hi hj => hS.inj hi hj) hk (popL (shE S es) t)).2 e (by omega) (by omega)
  have hlk : lkE (shE S es) t = S.getD e 0 + 16 := by
    unfold lkE
    rw [if_neg (by omega), shE_get S es _ hle, he]
  rw [hlk] at hsp hb
  refine ⟨h1, by simp [h.len], fun j hj => ?_, h2, h3, fun x hx => ?_, ⟨_, b, hst, hsp, hb⟩, fun j hj1 hj2 => ?_, h4, h.at_, by have := hp.le; have := h.short; simp; omega⟩
  · rw [ndI_set _ e j _ (by simp [h.len]; omega)]
    have hbase : (ndI (nds.set k { ndI nds k with l := popL (shE S es) t }) j).o = S.getD j 0 := by
      rw [ndI_set nds k j _ (by rw [h.len]; exact hk)]
      split
      · rename_i e2; subst e2; exact h.offs k hk
      · exact h.offs j hj
    split
    · rename_i e2; subst e2; exact hbase
    · exact hbase
  · rcases List.mem_append.1 hx with hx | hx
    · have := h.ahead x (List.mem_of_mem_take hx); omega
    · have : x = k := by simpa using hx
      omega
  · rw [ndI_set _ e j _ (by simp [h.len]; omega), if_neg (by omega), ndI_set nds k j _ (by rw [h.len]; exact hk), if_neg (by omega)]
    exact h.rest j (by omega) hj2
theorem ShI.first {w3 : World} {nd : List Nd} (h : NodesAt w3 gb nd) (hgb : w.heap.size ≤ gb) (hg : w.grownBy w3 none) (hl : nd.length = n) (ho : ∀ j, j < n → (ndI nd j).o = S.getD j 0) (hz : ∀ j, j < n → (ndI nd j).l = 0 ∧ (ndI nd j).r = 0) :
    ShI w ((w3.alloc (.cells #[.int .u64 0, .int .u64 0, .int .u64 0, .int .u64 0] 142)).alloc (.cells #[.pointer (some ⟨w3.heap.size, 0, none⟩)] 181)) w3.heap.size gb n S (.slice (some ⟨w3.heap.size + 1, 0, none⟩) 1 1) nd [] 0 0 := by
  have g1 := World.grownBy_alloc w3 (.cells #[.int .u64 0, .int .u64 0, .int .u64 0, .int .u64 0] 142) none
  have g2 := World.grownBy_alloc (w3.alloc (.cells #[.int .u64 0, .int .u64 0, .int .u64 0, .int .u64 0] 142)) (.cells #[.pointer (some ⟨w3.heap.size, 0, none⟩)] 181) none
  have ha := heap_alloc_new' w3 (.cells #[.int .u64 0, .int .u64 0, .int .u64 0, .int .u64 0] 142)
  have he := heap_alloc_new' (w3.alloc (.cells #[.int .u64 0, .int .u64 0, .int .u64 0, .int .u64 0] 142)) (.cells #[.pointer (some ⟨w3.heap.size, 0, none⟩)] 181)
  rw [World.size_alloc] at he
  refine ⟨h.later (grown_trans g1 g2) (by simp), hl, ho, (g2.block _ (lt_of_block ha) (by simp)).trans ha, ⟨rfl, .inr ⟨_, 1, _, rfl, by omega, he, by simp, by unfold maxLen; omega, rfl, rfl⟩⟩, by simp, ⟨fun _ => 0, 32, ⟨rfl, fun i hi => ?_⟩, ⟨rfl, by simp⟩, rfl⟩, fun j _ hj => hz j hj, grown_trans hg (grown_trans g1 g2), ⟨hgb, h.lt⟩, Nat.le_refl _⟩
  have := hz i (by omega)
  exact ⟨this.1.symm, this.2.symm⟩
theorem ShP.at_ {es : List Nat} {nds : List Nd} {eb : Nat} {cur : Array Value} (h : ShP wr wq gb n S es nds k t) (hgb : eb ≠ gb) (heb : wr.heap[eb]? = some (.cells cur 181 (0, 0))) : wq.heap[eb]? = wr.heap[eb]? :=
  h.grown.block _ (lt_of_block heb) (by simpa using hgb)
theorem ShP.off {es : List Nat} {nds : List Nd} (h : ShP wr wq gb n S es nds k t) (hlen : nds.length = n) (ho : ∀ j, j < n → (ndI nds j).o = S.getD j 0) (hk : k < n) (j : Nat) (hj : j < n) : wq.cell? ⟨gb, j * 4 + 1, none⟩ = some (.int .u64 (S.getD j 0 : Nat)) := by
  have := (h.nodes.cell (k := j) (by simp; omega)).2.1
  have e : ((nds.set k { ndI nds k with l := popL (shE S es) t }).getD j default).o = S.getD j 0 := by
    show (ndI (nds.set k { ndI nds k with l := popL (shE S es) t }) j).o = S.getD j 0
    rw [ndI_set nds k j { ndI nds k with l := popL (shE S es) t } (by omega)]
    split
    · rename_i e; subst e; exact ho k hk
    · exact ho j hj
  rw [e] at this
  exact this
theorem ShP.later {es : List Nat} {nds : List Nd} {w5 : World} (h : ShP wr wq gb n S es nds k t) (hg : wq.grownBy w5 none) : ShP wr w5 gb n S es nds k t :=
  ⟨h.le, h.nodes.later hg (by simp), h.popped, grown_trans h.grown (grown_any hg _)⟩
theorem grown_dN (w : World) (q : Nat) : w.grownBy (w.drewN q) none := ⟨rfl, rfl, rfl, Nat.le_refl _, fun _ _ _ => rfl⟩
theorem four_put {w : World} {b : Nat} {x y z u u' : Value} {t : TypeId} (h : w.heap[b]? = some (.cells #[x, y, z, u] t (0, 0))) : (w.setCell ⟨b, 3, none⟩ u').heap[b]? = some (.cells #[x, y, z, u'] t (0, 0)) := by
  rw [heap_setCell_same h u']; rfl
end
end Go.Proofs.YtcbdbflgfhbikaaGreat
namespace Go.Proofs.YtcbdbflgfhbikaaGreat
open Go.RowKit
set_option maxRecDepth 100000
section
variable {w : World} {T M : Nat} {R : Option Nat} {B D : Nat} {ws : List Nat} {l l' : List (Nat × Nat)} {z : Nat → Nat} {F S U lst : List Nat} {off lk n k v left right : Nat}
theorem TreeIs.tame {f : Nat → Nat} (h : TreeIs f z F lst) : Tame z F (srtK z lst) := ⟨h.free, srtK_rising h.nodup, fun x hx => h.sub x (srtK_mem.1 hx)⟩
theorem TreeIs.gone {f g : Nat → Nat} (h : TreeIs f z F lst) (ht : TreeOf g rkN (g 32) ((srtK z lst).filter fun a => decide (a ≠ off))) : TreeIs g z F (lst.filter fun a => decide (a ≠ off)) :=
  ⟨h.free, fun x hx => h.sub x (List.mem_filter.1 hx).1, h.nodup.filter _, by rw [srtK_erase h.nodup]; exact ht⟩
theorem TreeIs.come {f g : Nat → Nat} (h : TreeIs f z F lst) (ho : off ∈ F) (hn : off ∉ lst) (ht : TreeOf g rkN (g 32) (insK z off (srtK z lst))) : TreeIs g z F (lst ++ [off]) := by
  refine ⟨h.free, fun x hx => ?_, ?_, by rw [srtK_snoc]; exact ht⟩
  · rcases List.mem_append.1 hx with hx | hx
    · exact h.sub x hx
    · have : x = off := by simpa using hx
      rw [this]; exact ho
  · rw [List.nodup_append]
    refine ⟨h.nodup, by simp, fun a ha b hb e => ?_⟩
    have : b = off := by simpa using hb
    exact hn (this ▸ e ▸ ha)
theorem Tame.lot (h : Tame z F S) (p : Nat → Bool) : Lot F (S.filter p) := ⟨h.free, h.rise.nodup.filter p, fun x hx => h.sub x (List.mem_filter.1 hx).1⟩
set_option maxHeartbeats 4000000 in
theorem tinsert_any (h : Thinks w T M R B D ws l) (hB : Bed ws l z F) (hI : TreeIs (txSee ws l) z F lst) (ho : off ∈ F) (hn : off ∉ lst) :
    Calls Tryz.prog 56 #[.pointer (some ⟨T, 0, none⟩), .int .u64 off] w fun e w' => e = .returned (.tuple #[]) ∧ ∃ l', Thought w T M R B D ws l' w' ∧ Bed ws l' z F ∧ TreeIs (txSee ws l') z F (lst ++ [off]) ∧ Kept F (txSee ws l) (txSee ws l') := by
  have ho64 := (hB.first ho).2
  have hg0 : w.grownBy (w.alloc (.cells #[.pointer (some ⟨T, 0, none⟩)] 135)) none := World.grownBy_alloc _ _ _
  have ha : (w.alloc (.cells #[.pointer (some ⟨T, 0, none⟩)] 135)).heap[w.heap.size]? = some (.cells #[.pointer (some ⟨T, 0, none⟩)] 135 (0, 0)) := heap_alloc_new' _ _
  have hfind := tfind_any (h.later hg0) hB hI.tame hI.tree ho
  have hd : decide (off ∈ srtK z lst) = false := decide_eq_false fun hm => hn (srtK_mem.1 hm)
  rw [hd] at hfind
  have hload := fun (w1 : World) (hg : w.grownBy w1 none) (q : Nat) (hq : q < 18446744073709551616) => txload_any (h.later hg) q hq
  have hlead := fun (w1 : World) (hg : w.grownBy w1 none) (lk : Nat) (hL : LinkOf F lk) => tlead_any (h.later hg) lk off (hB.stand hL).1 (hB.stand hL).2 (by omega)
  have HA := Lib.hid ha
  have HI := Lib.hid hI
  have HB := Lib.hid hB
  have HTH := Lib.hid h
  have hlk64 := fun lk (hL : LinkOf F lk) => (hB.stand hL).2
  clear ha hI hB hd
  go_enter Tryz.func56, Tryz.ntmps56
  go_wp2_with (first | (go_at_call 92; (with_reducible refine hfind.mono ?_); rintro e w1 ⟨hg1, lk, n, hF, hlk, hL, rfl⟩; have HF := Lib.hid hF; have HL := Lib.hid hL; have G1 := grown_trans hg0 hg1; have X1 := Lib.hid ((hg1.block _ (lt_of_block HA.out) (by simp)).trans HA.out); have c1 := cell_of_one X1.out; have hld := hload _ G1 lk (hlk64 lk hL); rw [hlk] at hld; have HLK := Lib.hid hlk; clear hlk hL hF) | (go_at_call 17; (with_reducible refine hld.mono ?_); rintro e w2 ⟨rfl, hg2⟩; have G2 := grown_trans G1 hg2; have X2 := Lib.hid ((hg2.block _ (lt_of_block X1.out) (by simp)).trans X1.out); have c2 := cell_of_one X2.out) | (go_at_call 99; (with_reducible refine (hlead _ G2 lk HL.out).mono ?_); rintro e w4 ⟨rfl, l3, ⟨R3, ht3, hq3, hr3⟩, hl3⟩))
  have X4 := hq3.heap X2.out ((h.later G2).far X2.out (by decide) (by decide))
  have hB3 := HB.out.led HL.out hl3
  obtain ⟨k, hway⟩ := HF.out.way
  obtain ⟨lst', htr, hU, hend⟩ := insert_end HI.out.tame ho (fun hm => hn (srtK_mem.1 hm)) hway HF.out.stop hl3.off hl3.at_
  have hkey := fun (w1 : World) (hg : w4.grownBy w1 none) => tkey_any (ht3.later hg) off (by omega)
  rw [hB3.keys off ho] at hkey
  have hsplit := fun (w1 : World) (hg : w4.grownBy w1 none) => tsplit_any (ht3.later hg) hB3 hU n htr
  obtain ⟨zo, hzo⟩ : ∃ q, z off = q := ⟨_, rfl⟩
  rw [hzo] at hkey hsplit
  have hcell : ∀ {wq : World}, w4.grownBy wq none → wq.cell? ⟨w.heap.size, 0, none⟩ = some (.pointer (some ⟨T, 0, none⟩)) := fun {wq} hg => cell_of_one ((hg.block _ (lt_of_block X4) (by simp)).trans X4)
  have hfar : ∀ {w5 w6 : World} {l5 : List (Nat × Nat)}, w4.grownBy w5 none → Thought w5 T M R3 B D ws l5 w6 → w6.cell? ⟨w.heap.size, 0, none⟩ = some (.pointer (some ⟨T, 0, none⟩)) := fun {w5 w6 l5} hg ⟨_, _, q5, _⟩ => cell_of_one (q5.heap ((hg.block _ (lt_of_block X4) (by simp)).trans X4) ((ht3.later hg).far ((hg.block _ (lt_of_block X4) (by simp)).trans X4) (by decide) (by decide)))
  have HG : w4.grownBy w4.drew none := grown_drew (grown_refl _ _)
  have d0 := hcell HG
  have HEND := Lib.hid hend
  have HT3 := Lib.hid (show Thought w T M R B D ws l3 w4 from Thought.first G2 ⟨R3, ht3, hq3, hr3⟩)
  have HQ := Lib.hid (show ∀ (l5 : List (Nat × Nat)) (w6 : World), Thought w4 T M R3 B D ws l5 w6 → Thought w T M R B D ws l5 w6 from fun l5 w6 hx => Thought.first G2 (Thought.trans hq3 hr3 hx))
  clear hend hway hU htr c1 c2 hld hload hlead hfind hzo hg0 hlk64
  go_region_held3 (fun wq => wq.cell? ⟨w.heap.size, 0, none⟩ = some (.pointer (some ⟨T, 0, none⟩))) (first | exact hcell HG | exact hcellE) (first | (go_at_call 101; (with_reducible refine (hkey _ HG).mono ?_); rintro e w9 ⟨rfl, hg9⟩; replace HG := grown_trans HG hg9; have d1 := hcell HG) | (go_at_call 100; (with_reducible refine (hsplit _ HG).mono ?_); rintro e w10 ⟨rfl, l4, ht4, hsp⟩; have hcellE := hfar HG ht4; clear hcell))
  go_end0
  obtain ⟨a, b, e1, e2, e3, e4, e5, e6⟩ := hsp
  obtain ⟨q1, q2⟩ := HEND.out _ a b e1 e2 e3 e4 e5 e6
  exact ⟨rfl, l4, HQ.out _ _ (Thought.first HG ht4), HB.out.kept q2, HI.out.come ho hn q1, q2⟩
set_option maxHeartbeats 4000000 in
theorem tdelete_yes (h : Thinks w T M R B D ws l) (hB : Bed ws l z F) (hI : TreeIs (txSee ws l) z F lst) (ho : off ∈ F) (hn : off ∈ lst) :
    Calls Tryz.prog 53 #[.pointer (some ⟨T, 0, none⟩), .int .u64 off] w fun e w' => e = .returned (.bool true) ∧ ∃ l', Thought w T M R B D ws l' w' ∧ Bed ws l' z F ∧ TreeIs (txSee ws l') z F (lst.filter fun a => decide (a ≠ off)) ∧ Kept F (txSee ws l) (txSee ws l') := by
  have ho64 := (hB.first ho).2
  have hg0 : w.grownBy (w.alloc (.cells #[.pointer (some ⟨T, 0, none⟩)] 135)) none := World.grownBy_alloc _ _ _
  have ha : (w.alloc (.cells #[.pointer (some ⟨T, 0, none⟩)] 135)).heap[w.heap.size]? = some (.cells #[.pointer (some ⟨T, 0, none⟩)] 135 (0, 0)) := heap_alloc_new' _ _
  have hfind := tfind_any (h.later hg0) hB hI.tame hI.tree ho
  have hd : decide (off ∈ srtK z lst) = true := decide_eq_true (srtK_mem.2 hn)
  rw [hd] at hfind
  have hload8 := fun (w1 : World) (hg : w.grownBy w1 none) => txload_any (h.later hg) (off + 8) (by omega)
  have hload16 := fun (w1 : World) (hg : w.grownBy w1 none) => txload_any (h.later hg) (off + 16) (by omega)
  have e8 : IntKind.u64.wrap ((off : Int) + 8) = (off + 8 : Nat) := by rw [IntKind.wrap_u64]; omega
  have e16 : IntKind.u64.wrap ((off : Int) + 16) = (off + 16 : Nat) := by rw [IntKind.wrap_u64]; omega
  obtain ⟨y8, ey8⟩ : ∃ q, txSee ws l (off + 8) = q := ⟨_, rfl⟩
  obtain ⟨y16, ey16⟩ : ∃ q, txSee ws l (off + 16) = q := ⟨_, rfl⟩
  rw [ey8] at hload8
  rw [ey16] at hload16
  obtain ⟨o8, eo8⟩ : ∃ q, off + 8 = q := ⟨_, rfl⟩
  obtain ⟨o16, eo16⟩ : ∃ q, off + 16 = q := ⟨_, rfl⟩
  rw [eo8] at e8 hload8
  rw [eo16] at e16 hload16
  have hjoin := fun (w1 : World) (hg : w.grownBy w1 none) (lk : Nat) (hj : JoinE (txSee ws l) z F ((srtK z lst).filter fun a => decide (a ≠ off)) lk y8 y16) => tjoin_any (h.later hg) hB (hI.tame.lot _) hj
  have hJ : ∀ lk n, Found (txSee ws l) z F (srtK z lst) off lk n → JoinE (txSee ws l) z F ((srtK z lst).filter fun a => decide (a ≠ off)) lk y8 y16 := fun lk n hF => by
    obtain ⟨k, hk⟩ := hF.way
    have hno := hF.is.2 (srtK_mem.2 hn)
    rw [hno] at hk
    have hj := join_start hI.tame hk ho
    rw [ey8, ey16] at hj
    exact hj
  have HA := Lib.hid ha
  have HI := Lib.hid hI
  have HB := Lib.hid hB
  have HTH := Lib.hid h
  have HJ := Lib.hid hJ
  clear ha hI hB hd eo8 eo16 ey8 ey16 hJ
  go_enter Tryz.func53, Tryz.ntmps53
  go_wp2_with (first | (go_at_call 92; (with_reducible refine hfind.mono ?_); rintro e w1 ⟨hg1, lk, n, hF, hlk, hL, rfl⟩; have HF := Lib.hid hF; have G1 := grown_trans hg0 hg1; have X1 := Lib.hid ((hg1.block _ (lt_of_block HA.out) (by simp)).trans HA.out); have c1 := cell_of_one X1.out; clear hlk hL hF))
  have X4 := X1.out
  have hj2 := fun (w1 : World) (hg : w.grownBy w1 none) => hjoin w1 hg lk (HJ.out lk n HF.out)
  have hcell : ∀ {wq : World}, w1.grownBy wq none → wq.cell? ⟨w.heap.size, 0, none⟩ = some (.pointer (some ⟨T, 0, none⟩)) := fun {wq} hg => cell_of_one ((hg.block _ (lt_of_block X4) (by simp)).trans X4)
  have hfar : ∀ {w5 w6 : World} {l5 : List (Nat × Nat)}, w1.grownBy w5 none → Thought w5 T M R B D ws l5 w6 → w6.cell? ⟨w.heap.size, 0, none⟩ = some (.pointer (some ⟨T, 0, none⟩)) := fun {w5 w6 l5} hg ⟨_, _, q5, _⟩ => cell_of_one (q5.heap ((hg.block _ (lt_of_block X4) (by simp)).trans X4) ((h.later (grown_trans G1 hg)).far ((hg.block _ (lt_of_block X4) (by simp)).trans X4) (by decide) (by decide)))
  have HG : w1.grownBy w1.drew none := grown_drew (grown_refl _ _)
  have d0 := hcell HG
  clear c1 hfind hg0 hjoin
  go_region_held3 (fun wq => wq.cell? ⟨w.heap.size, 0, none⟩ = some (.pointer (some ⟨T, 0, none⟩))) (first | exact hcell HG | exact hcellE) (first | (go_at_call 17; (with_reducible refine (hload8 _ (grown_trans G1 HG)).mono ?_); rintro e w9 ⟨rfl, hg9⟩; replace HG := grown_trans HG hg9; have d1 := hcell HG) | (go_at_call 17; (with_reducible refine (hload16 _ (grown_trans G1 HG)).mono ?_); rintro e w9 ⟨rfl, hg9⟩; replace HG := grown_trans HG hg9; have d1 := hcell HG) | (go_at_call 93; (with_reducible refine (hj2 _ (grown_trans G1 HG)).mono ?_); rintro e w10 ⟨rfl, l4, ht4, hsp1, hsp2⟩; have hcellE := hfar HG ht4; clear hcell))
  go_wp2
  go_ret
  exact ⟨rfl, l4, Thought.first (grown_trans G1 HG) ht4, HB.out.kept hsp2, HI.out.gone hsp1, hsp2⟩
end
end Go.Proofs.YtcbdbflgfhbikaaGreat
