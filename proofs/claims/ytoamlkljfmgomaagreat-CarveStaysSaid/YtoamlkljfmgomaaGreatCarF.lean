/-
  Layer 10's plain answers: pad, Align, free, New.
  Conditions: as said at each.
-/
import Derived.Test.YtoamlkljfmgomaaGreatCarB
import Derived.Test.YtoamlkljfmgomaaGreatLWord
import Derived.Test.YtoamlkljfmgomaaGreatLPhys
import Derived.Test.YtoamlkljfmgomaaGreatLTreez
namespace Go.Proofs.YtoamlkljfmgomaaGreat
open Go.RowKit
set_option linter.unusedVariables false
set_option linter.unusedSimpArgs false
set_option maxRecDepth 100000

theorem padN_not {off a n : Nat} (ha : alignP a) (ho : off % 16 = 0) (hn : n % 16 = 0) (h : n < padN off a) : ¬ padIs off a n := fun e => by
  have := padN_least ha ho hn e
  omega
set_option maxHeartbeats 4000000 in
theorem rpad_any {off a : Nat} (ha : alignP a) (ho : off % 16 = 0) (hlt : off < 1000000000) (w : World) :
    Calls Tryz.prog 29 #[.int .u64 off, .int .u64 a] w fun e w' => e = .returned (.int .u64 (padN off a : Nat)) ∧ w = w' := by
  have hal := ha.le
  have hp := padN_is ha ho
  have hpl := padN_al ha ho
  have hno := fun n => padN_not (n := n) ha ho
  obtain ⟨P, hP⟩ : ∃ P, padN off a = P := ⟨_, rfl⟩
  rw [hP] at hp hpl hno ⊢
  have a0 : ¬ (a : Int) = 0 := by omega
  have e32 : IntKind.u64.wrap ((off : Int) + 32) = ((off + 32 : Nat) : Int) := by rw [IntKind.wrap_u64]; omega
  obtain ⟨o32, eo⟩ : ∃ q, off + 32 = q := ⟨_, rfl⟩
  unfold padIs at hp hno
  rw [eo] at e32 hp
  simp only [eo] at hno
  have ho32 : o32 < 1000000100 := by omega
  have HNO := Lib.hid hno
  have HP := Lib.hid hp
  clear eo ha hP hno hp
  go_enter Tryz.func29, Tryz.ntmps29
  go_wp2
  go_loopw [5] (fun v wr => ∃ n : Nat, n % 16 = 0 ∧ n ≤ P ∧ v = .int .u64 n ∧ wr = w) (fun v _ => P - (intOf v).toNat)
  case atStart => exact ⟨0, rfl, Nat.zero_le _, rfl, rfl⟩
  case round =>
    obtain ⟨n, hn16, hnP, rfl, rfl⟩ := hrel
    obtain ⟨m, em⟩ : ∃ m, o32 + n = m := ⟨_, rfl⟩
    have e2 : IntKind.u64.wrap ((o32 : Int) + (n : Int)) = (m : Nat) := by rw [IntKind.wrap_u64]; omega
    obtain ⟨r, er⟩ : ∃ r, m % a = r := ⟨_, rfl⟩
    have e3 : (m : Int).tmod (a : Int) = (r : Nat) := by rw [Int.tmod_eq_emod_of_nonneg (by omega)]; omega
    have e4 : (m : Int) % (a : Int) = (r : Nat) := by omega
    rcases Nat.lt_or_ge n P with hlt1 | hge
    · have hnot := HNO.out n hn16 hlt1
      rw [em, er] at hnot
      have e16 : IntKind.u64.wrap ((n : Int) + 16) = ((n + 16 : Nat) : Int) := by rw [IntKind.wrap_u64]; omega
      obtain ⟨n16, en⟩ : ∃ q, n + 16 = q := ⟨_, rfl⟩
      rw [en] at e16
      have h16P : n16 ≤ P := by omega
      have hn16' : n16 % 16 = 0 := by omega
      have hms : P - n16 < P - n := by omega
      by_cases hr : r = 0
      · subst hr
        have hb : 0 < n ∧ n < 48 := by
          rcases Nat.eq_zero_or_pos n with h | h
          · exact absurd ⟨rfl, .inl h⟩ hnot
          · refine ⟨h, ?_⟩
            rcases Nat.lt_or_ge n 48 with h2 | h2
            · exact h2
            · exact absurd ⟨rfl, .inr h2⟩ hnot
        have b1 : (0 : Int) < (n : Int) := by omega
        have b2 : (n : Int) < 48 := by omega
        clear hnot em er en
        go_wp2
        go_roundw
        case rel => exact ⟨n16, hn16', h16P, rfl, trivial⟩
        case measure => simp [intOf]; omega
      · have hr' : ¬ (r : Int) = 0 := by omega
        have hr2 : ((r : Int) != 0) = true := by simp; omega
        clear hnot em er en
        go_wp2
        go_roundw
        case rel => exact ⟨n16, hn16', h16P, rfl, trivial⟩
        case measure => simp [intOf]; omega
    · obtain rfl : n = P := by omega
      have hp := HP.out
      rw [em, er] at hp
      obtain ⟨hr0, hn48⟩ := hp
      subst hr0
      simp only [show ((0 : Nat) : Int) = 0 from rfl] at e3 e4
      clear er
      rcases hn48 with rfl | h48
      · obtain rfl : o32 = m := by omega
        simp only [show ((0 : Nat) : Int) = 0 from rfl] at e2 ⊢
        go_wp2
        go_ret
        exact ⟨rfl, rfl⟩
      · clear em
        have b1 : (0 : Int) < (n : Int) := by omega
        have b2 : ¬ (n : Int) < 48 := by omega
        go_wp2
        go_ret
        exact ⟨rfl, rfl⟩
/-! ### Align -/
theorem align_iff {a : Nat} : alignP a ↔ (∃ k, k < 64 ∧ a = 2 ^ k) ∧ 16 ≤ a ∧ a ≤ 4096 := by
  constructor
  · rintro (rfl | rfl | rfl | rfl | rfl | rfl | rfl | rfl | rfl)
    · exact ⟨⟨4, by decide, rfl⟩, by decide, by decide⟩
    · exact ⟨⟨5, by decide, rfl⟩, by decide, by decide⟩
    · exact ⟨⟨6, by decide, rfl⟩, by decide, by decide⟩
    · exact ⟨⟨7, by decide, rfl⟩, by decide, by decide⟩
    · exact ⟨⟨8, by decide, rfl⟩, by decide, by decide⟩
    · exact ⟨⟨9, by decide, rfl⟩, by decide, by decide⟩
    · exact ⟨⟨10, by decide, rfl⟩, by decide, by decide⟩
    · exact ⟨⟨11, by decide, rfl⟩, by decide, by decide⟩
    · exact ⟨⟨12, by decide, rfl⟩, by decide, by decide⟩
  · rintro ⟨⟨k, _, e⟩, h1, h2⟩
    have hk : k < 13 := by
      rcases Nat.lt_or_ge k 13 with h | h
      · exact h
      · have := Nat.pow_le_pow_right (n := 2) (by decide) h
        omega
    unfold alignP
    rcases (show k = 0 ∨ k = 1 ∨ k = 2 ∨ k = 3 ∨ k = 4 ∨ k = 5 ∨ k = 6 ∨ k = 7 ∨ k = 8 ∨ k = 9 ∨ k = 10 ∨ k = 11 ∨ k = 12 by omega) with rfl | rfl | rfl | rfl | rfl | rfl | rfl | rfl | rfl | rfl | rfl | rfl | rfl <;> omega
theorem ralign_any {a : Nat} (ha : a < 18446744073709551616) (w : World) :
    Calls Tryz.prog 28 #[.int .u64 a] w fun e w' => e = .returned (.bool (decide (alignP a))) ∧ w = w' := by
  by_cases hp : ∃ k, k < 64 ∧ a = 2 ^ k
  · obtain ⟨k, hk, ek⟩ := hp
    have hb := pow_bounds k hk
    rw [← ek] at hb
    have hup := rup_core0 a a hb.1 ha ha (Nat.mod_self a) (power_yes k a hk ek)
    have hi : decide (alignP a) = decide (16 ≤ a ∧ a ≤ 4096) := by
      apply Bool.eq_iff_iff.2
      rw [decide_eq_true_iff, decide_eq_true_iff, align_iff]
      exact ⟨fun h => h.2, fun h => ⟨⟨k, hk, ek⟩, h⟩⟩
    rw [hi]
    clear hi ek hb
    by_cases h1 : 16 ≤ a
    · have h1' : (16 : Int) ≤ (a : Int) := by omega
      by_cases h2 : a ≤ 4096
      · have h2' : (a : Int) ≤ 4096 := by omega
        rw [decide_eq_true ⟨h1, h2⟩]
        go_enter Tryz.func28, Tryz.ntmps28
        go_wp2_with (go_at_call 54; refine (hup _).mono ?_; rintro e w1 ⟨rfl, rfl⟩)
        go_ret
        exact ⟨rfl, rfl⟩
      · have h2' : ¬ (a : Int) ≤ 4096 := by omega
        rw [decide_eq_false fun h => h2 h.2]
        have h2d := decide_eq_false h2'
        go_enter Tryz.func28, Tryz.ntmps28
        go_wp2_with (go_at_call 54; refine (hup _).mono ?_; rintro e w1 ⟨rfl, rfl⟩)
        go_ret
        exact ⟨rfl, rfl⟩
    · have h1' : ¬ (16 : Int) ≤ (a : Int) := by omega
      rw [decide_eq_false fun h => h1 h.1]
      go_enter Tryz.func28, Tryz.ntmps28
      go_wp2_with (go_at_call 54; refine (hup _).mono ?_; rintro e w1 ⟨rfl, rfl⟩)
      go_ret
      exact ⟨rfl, rfl⟩
  · have hno : ∀ k, a ≠ 2 ^ k := fun k e => by
      rcases Nat.lt_or_ge k 64 with h | h
      · exact hp ⟨k, h, e⟩
      · have := Nat.pow_le_pow_right (n := 2) (by decide) h
        omega
    have hup := rup_not a a ha hno
    rw [decide_eq_false fun h => hp (align_iff.1 h).1]
    clear hno hp
    go_enter Tryz.func28, Tryz.ntmps28
    go_wp2_with (go_at_call 54; refine (hup _).mono ?_; rintro e w1 ⟨rfl, rfl⟩)
    go_ret
    exact ⟨rfl, rfl⟩
/-! ### free -/
theorem rfree_any (off s : Nat) (w : World) :
    Calls Tryz.prog 42 #[.int .u64 off, .int .u64 s] w fun e w' => e = .returned (.agg (freeB off s).row.toArray) ∧ w.grownBy w' none := by
  go_enter Tryz.func42, Tryz.ntmps42
  go_wp2
  refine bodyPost_ret (v := .agg #[.int .u64 off, .int .u64 s, .bool false, .int .i64 0, .int .u64 0]) (by simp [results, Tryz.results42, go_sem]) rfl ?_
  exact ⟨rfl, grown_trans (World.grownBy_alloc _ _ _) (World.grownBy_alloc _ _ _)⟩
/-! ### heaps by value -/
/-- a heap's value -/
def heapV (E : Nat) (b : Value) (vs : Nat → Value) : Value := .agg #[.int .u64 (E : Nat), b, vs 0, vs 1, vs 2, vs 3, vs 4, vs 5, vs 6, vs 7]
/-- A heap's value is the document's: its rows are the call's own. -/
structure HvIs (w : World) (base : Nat) (v : Value) (E : Nat) (bs : List Blk) (L : Nat → List Nat) : Prop where
  is : ∃ b vs, v = heapV E b vs ∧ OwnB w base 43 b bs ∧ ∀ c, c < 8 → OwnW w base (vs c) (L c)
theorem HvIs.later {w w' : World} {base : Nat} {v : Value} {E : Nat} {bs : List Blk} {L : Nat → List Nat} (h : HvIs w base v E bs L) (hg : w.grownBy w' none) : HvIs w' base v E bs L := by
  obtain ⟨b, vs, h1, h2, h3⟩ := h.is
  exact ⟨b, vs, h1, h2.later hg, fun c hc => (h3 c hc).later hg⟩
theorem HvIs.mono {w : World} {base base' : Nat} {v : Value} {E : Nat} {bs : List Blk} {L : Nat → List Nat} (h : HvIs w base v E bs L) (hb : base' ≤ base) : HvIs w base' v E bs L := by
  obtain ⟨b, vs, h1, h2, h3⟩ := h.is
  exact ⟨b, vs, h1, h2.mono hb, fun c hc => (h3 c hc).mono hb⟩
theorem ownB_one {V : World} {base b : Nat} (hb : V.heap.size = b) (h : base ≤ b) (k : Blk) : OwnB (V.alloc (.cells k.row.toArray 43)) base 43 (.slice (some ⟨b, 0, none⟩) 1 1) [k] := by
  subst hb
  have := World.ownsRow_lit (base := base) (e := 43) (size := 5) V k.row.toArray 1 h (by decide) rfl
  unfold OwnB
  rw [show cellsB [k] = k.row.toArray.toList by simp [cellsB]]
  exact this
theorem rnew10_any (E : Nat) (hE : 3776 ≤ E) (h64 : E < 18446744073709551616) (w : World) :
    Calls Tryz.prog 23 #[.int .u64 E] w fun e w' => ∃ v, e = .returned v ∧ HvIs w' w.heap.size v E [freeB 3776 (E - 3776)] (fun _ => []) ∧ w.grownBy w' none := by
  obtain ⟨s, es⟩ : ∃ s, E - 3776 = s := ⟨_, rfl⟩
  have e1 : IntKind.u64.wrap ((E : Int) - 3776) = (s : Nat) := by rw [IntKind.wrap_u64]; omega
  rw [es]
  clear es
  go_enter Tryz.func23, Tryz.ntmps23
  go_wp2
  refine bodyPost_ret (v := heapV E (.slice (some ⟨w.heap.size + 1 + 1, 0, none⟩) 1 1) (fun _ => .slice none 0 0)) (by simp [results, Tryz.results23, go_sem, heapV]) rfl ?_
  refine ⟨_, rfl, ⟨_, _, rfl, ?_, fun c _ => World.ownsRow_nil _ _ _ _⟩, grown_trans (World.grownBy_alloc _ _ _) (grown_trans (World.grownBy_alloc _ _ _) (World.grownBy_alloc _ _ _))⟩
  exact ownB_one (by simp) (by omega) (freeB 3776 s)
/-! ### Frees -/
theorem freesB_take (bs : List Blk) {k : Nat} (h : k < bs.length) : freesB (bs.take (k + 1)) = if gU bs k = true then freesB (bs.take k) else freesB (bs.take k) ++ [gO bs k] := by
  have e : bs.take (k + 1) = bs.take k ++ [bs.getD k default] := by
    rw [List.take_succ_eq_append_getElem h, List.getD_eq_getElem?_getD, List.getElem?_eq_getElem h]
    rfl
  rw [e, freesB_append]
  unfold gU gO
  obtain ⟨x, hx⟩ : ∃ x, bs.getD k default = x := ⟨_, rfl⟩
  rw [hx]
  cases hu : x.u with
  | true => simp [freesB, hu]
  | false => simp [freesB, hu]
theorem freesB_len (bs : List Blk) : (freesB bs).length ≤ bs.length := by
  unfold freesB
  rw [List.length_map]
  exact List.length_filter_le _ _
set_option maxHeartbeats 4000000 in
theorem rfrees_any {w : World} {base : Nat} {v : Value} {E : Nat} {bs : List Blk} {L : Nat → List Nat} (h : HvIs w base v E bs L) (hn : bs.length ≤ 1000000) :
    Calls Tryz.prog 35 #[v] w fun e w' => ∃ fv, e = .returned fv ∧ OwnW w' w.heap.size fv (freesB bs) ∧ w.grownBy w' none := by
  obtain ⟨b, vs, rfl, ho, hl⟩ := h.is
  obtain ⟨la, c, rfl, hb⟩ := ho.at_
  obtain ⟨n, hn'⟩ : ∃ n, bs.length = n := ⟨_, rfl⟩
  rw [hn'] at hn ⊢
  have hg0 : w.grownBy (w.alloc (.cells #[.int .u64 E, .slice la n c, vs 0, vs 1, vs 2, vs 3, vs 4, vs 5, vs 6, vs 7] 30)) none := World.grownBy_alloc _ _ _
  have hbx : ∀ V : World, (w.alloc (.cells #[.int .u64 E, .slice la n c, vs 0, vs 1, vs 2, vs 3, vs 4, vs 5, vs 6, vs 7] 30)).grownBy V none → V.cell? ⟨w.heap.size, 1, none⟩ = some (.slice la n c) := fun V hg => by
    have := (hg.block _ (by simp) (by simp)).trans (heap_alloc_new' w (.cells #[.int .u64 E, .slice la n c, vs 0, vs 1, vs 2, vs 3, vs 4, vs 5, vs 6, vs 7] 30))
    simp [World.cell?, this]
  have hbl := fun (V : World) (hg : w.grownBy V none) => hb.later hg
  have HN := Lib.hid hn'
  have HBL := Lib.hid hbl
  clear ho hl hb hn' hbl h
  unfold heapV
  go_enter Tryz.func35, Tryz.ntmps35
  go_wp2
  obtain ⟨W0, hW0⟩ : ∃ W0, w.alloc (.cells #[.int .u64 E, .slice la n c, vs 0, vs 1, vs 2, vs 3, vs 4, vs 5, vs 6, vs 7] 30) = W0 := ⟨_, rfl⟩
  rw [hW0] at hg0 hbx ⊢
  have HBX := Lib.hid hbx
  have HG0 := Lib.hid hg0
  have hsz0 := hg0.size
  clear hbx hW0 hg0
  go_loopw [4, 3] (fun i v wr => ∃ k : Nat, k ≤ n ∧ i = .int .i64 k ∧ OwnW wr W0.heap.size v (freesB (bs.take k)) ∧ W0.grownBy wr none) (fun i _ _ => n - (intOf i).toNat)
  case atStart => exact ⟨0, Nat.zero_le _, rfl, World.ownsRow_nil _ _ _ _, grown_refl _ _⟩
  case round =>
    obtain ⟨k, hk, rfl, hown, hgr⟩ := hrel
    have q0 := HBX.out wr hgr
    rcases Nat.lt_or_ge k n with h1 | h1
    · have h1' : (k : Int) < (n : Int) := by omega
      obtain ⟨bb, off, rfl, hbb, hcs⟩ := (HBL.out wr (grown_trans HG0.out hgr)).cells (by rw [HN.out]; omega)
      obtain ⟨c0, _, c2, _, _⟩ := hcs k (by rw [HN.out]; exact h1)
      have hnext := freesB_take bs (k := k) (by rw [HN.out]; exact h1)
      have hflen := freesB_len (bs.take k)
      rw [List.length_take, HN.out] at hflen
      obtain ⟨x, hx⟩ : ∃ x, gO bs k = x := ⟨_, rfl⟩
      obtain ⟨fl, hfl⟩ : ∃ fl, freesB (bs.take k) = fl := ⟨_, rfl⟩
      rw [hx] at c0 hnext
      rw [hfl] at hown hnext hflen
      have HOWN := Lib.hid hown
      have hsw := hgr.size
      cases hu : gU bs k with
      | true =>
        rw [hu] at c2 hnext
        rw [if_pos rfl] at hnext
        have HNX := Lib.hid hnext
        clear hnext hcs hx hfl hown hu
        go_wp2
        go_roundw
        case rel => exact ⟨k + 1, by omega, by go_num, by rw [HNX.out]; exact HOWN.out, hgr⟩
        case measure => simp [intOf]; omega
      | false =>
        rw [hu] at c2 hnext
        rw [if_neg (by simp)] at hnext
        have HNX := Lib.hid hnext
        clear hnext hcs hx hfl hown hu
        go_wp2_with (at_builtin; go_must (refine wpList_append_num rfl _ _ rfl W0.heap.size _ fl rfl HOWN.out x rfl (by omega) (by omega) ?_); intro v8 w8 hown8 hg8 hloc8)
        go_roundw
        case rel => exact ⟨k + 1, by omega, by go_num, by rw [HNX.out]; exact hown8, grown_step hgr hg8 (fun i hi => .inl (World.ownsRow.lt HOWN.out i hi).1)⟩
        case measure => simp [intOf]; omega
    · obtain rfl : k = n := by omega
      rw [← HN.out, List.take_length] at hown
      obtain ⟨fa, fn, fc, hfv⟩ := wv_form hown
      subst hfv
      have HOWN := Lib.hid hown
      clear hown
      go_wp2
      go_ret
      exact ⟨_, rfl, HOWN.out.mono HG0.out.size, grown_trans HG0.out hgr⟩
end Go.Proofs.YtoamlkljfmgomaaGreat
