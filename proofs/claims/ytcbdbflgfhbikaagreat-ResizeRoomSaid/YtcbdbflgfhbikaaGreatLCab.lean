/-
  Texts of one layer, one behind the other: memory, contracts of the functions, and what follows of them.
  Conditions: as each theorem says.
-/
import Derived.Test.YtcbdbflgfhbikaaGreatLCaa
import Derived.RegionTactic
import Derived.ChangeAlike
import Derived.BigRegion
import Derived.Test.YtcbdbflgfhbikaaGreatLWoa
import Derived.Test.YtcbdbflgfhbikaaGreatLPhb
import Derived.Test.YtcbdbflgfhbikaaGreatLPhc
import Derived.Test.YtcbdbflgfhbikaaGreatLTra
import Derived.Test.YtcbdbflgfhbikaaGreatLTaa
import Derived.Test.YtcbdbflgfhbikaaGreatTxP
import Derived.Test.YtcbdbflgfhbikaaGreatLTre
set_option linter.unusedVariables false
set_option linter.unusedSimpArgs false
namespace Go.Proofs.YtcbdbflgfhbikaaGreat
open Go.RowKit
set_option maxRecDepth 100000
theorem padN_not {off a n : Nat} (ha : alignP a) (ho : off % 16 = 0) (hn : n % 16 = 0) (h : n < padN off a) : ¬ padIs off a n := fun e => by
  have := padN_least ha ho hn e
  omega
set_option maxHeartbeats 4000000 in
theorem rpad_any {off a : Nat} (ha : alignP a) (ho : off % 16 = 0) (hlt : off < 1000000000) (w : World) :
    Calls Tryz.prog 122 #[.int .u64 off, .int .u64 a] w fun e w' => e = .returned (.int .u64 (padN off a : Nat)) ∧ w = w' := by
  have hal := ha.le
  have hp := padN_is ha ho
  have hpl := padN_al ha ho
  have hno := fun n => padN_not (n := n) ha ho
  obtain ⟨P, hP⟩ : ∃ P, padN off a = P := ⟨_, rfl⟩
  rw [hP] at hp hpl hno ⊢
  have a0 : ¬ (a : Int) = 0 := by omega
  have e32 : IntKind.u64.wrap ((off : Int) + 32) = ((off + 32 : Nat) : Int) := by rw [IntKind.wrap_u64]; omega
  obtain ⟨o32, eo⟩ : ∃ q, off + 32 = q := ⟨_, rfl⟩
  unfold padIs at hp hno
  rw [eo] at e32 hp
  simp only [eo] at hno
  have ho32 : o32 < 1000000100 := by omega
  have HNO := Lib.hid hno
  have HP := Lib.hid hp
  clear eo ha hP hno hp
  go_enter Tryz.func122, Tryz.ntmps122
  go_wp2
  go_loopw [5] (fun v wr => ∃ n : Nat, n % 16 = 0 ∧ n ≤ P ∧ v = .int .u64 n ∧ wr = w) (fun v _ => P - (intOf v).toNat)
  case atStart => exact ⟨0, rfl, Nat.zero_le _, rfl, rfl⟩
  case round =>
    obtain ⟨n, hn16, hnP, rfl, rfl⟩ := hrel
    obtain ⟨m, em⟩ : ∃ m, o32 + n = m := ⟨_, rfl⟩
    have e2 : IntKind.u64.wrap ((o32 : Int) + (n : Int)) = (m : Nat) := by rw [IntKind.wrap_u64]; omega
    obtain ⟨r, er⟩ : ∃ r, m % a = r := ⟨_, rfl⟩
    have e3 : (m : Int).tmod (a : Int) = (r : Nat) := by rw [Int.tmod_eq_emod_of_nonneg (by omega)]; omega
    have e4 : (m : Int) % (a : Int) = (r : Nat) := by omega
    rcases Nat.lt_or_ge n P with hlt1 | hge
    · have hnot := HNO.out n hn16 hlt1
      rw [em, er] at hnot
      have e16 : IntKind.u64.wrap ((n : Int) + 16) = ((n + 16 : Nat) : Int) := by rw [IntKind.wrap_u64]; omega
      obtain ⟨n16, en⟩ : ∃ q, n + 16 = q := ⟨_, rfl⟩
      rw [en] at e16
      have h16P : n16 ≤ P := by omega
      have hn16' : n16 % 16 = 0 := by omega
      have hms : P - n16 < P - n := by omega
      by_cases hr : r = 0
      · subst hr
        have hb : 0 < n ∧ n < 48 := by
          rcases Nat.eq_zero_or_pos n with h | h
          · exact absurd ⟨rfl, .inl h⟩ hnot
          · refine ⟨h, ?_⟩
            rcases Nat.lt_or_ge n 48 with h2 | h2
            · exact h2
            · exact absurd ⟨rfl, .inr h2⟩ hnot
        have b1 : (0 : Int) < (n : Int) := by omega
        have b2 : (n : Int) < 48 := by omega
        clear hnot em er en
        go_wp2
        go_roundw
        case rel => exact ⟨n16, hn16', h16P, rfl, trivial⟩
        case measure => simp [intOf]; omega
      · have hr' : ¬ (r : Int) = 0 := by omega
        have hr2 : ((r : Int) != 0) = true := by simp; omega
        clear hnot em er en
        go_wp2
        go_roundw
        case rel => exact ⟨n16, hn16', h16P, rfl, trivial⟩
        case measure => simp [intOf]; omega
    · obtain rfl : n = P := by omega
      have hp := HP.out
      rw [em, er] at hp
      obtain ⟨hr0, hn48⟩ := hp
      subst hr0
      simp only [show ((0 : Nat) : Int) = 0 from rfl] at e3 e4
      clear er
      rcases hn48 with rfl | h48
      · obtain rfl : o32 = m := by omega
        simp only [show ((0 : Nat) : Int) = 0 from rfl] at e2 ⊢
        go_wp2
        go_ret
        exact ⟨rfl, rfl⟩
      · clear em
        have b1 : (0 : Int) < (n : Int) := by omega
        have b2 : ¬ (n : Int) < 48 := by omega
        go_wp2
        go_ret
        exact ⟨rfl, rfl⟩
theorem align_iff {a : Nat} : alignP a ↔ (∃ k, k < 64 ∧ a = 2 ^ k) ∧ 16 ≤ a ∧ a ≤ 4096 := by
  constructor
  · rintro (rfl | rfl | rfl | rfl | rfl | rfl | rfl | rfl | rfl)
    · exact ⟨⟨4, by decide, rfl⟩, by decide, by decide⟩
    · exact ⟨⟨5, by decide, rfl⟩, by decide, by decide⟩
    · exact ⟨⟨6, by decide, rfl⟩, by decide, by decide⟩
    · exact ⟨⟨7, by decide, rfl⟩, by decide, by decide⟩
    · exact ⟨⟨8, by decide, rfl⟩, by decide, by decide⟩
    · exact ⟨⟨9, by decide, rfl⟩, by decide, by decide⟩
    · exact ⟨⟨10, by decide, rfl⟩, by decide, by decide⟩
    · exact ⟨⟨11, by decide, rfl⟩, by decide, by decide⟩
    · exact ⟨⟨12, by decide, rfl⟩, by decide, by decide⟩
  · rintro ⟨⟨k, _, e⟩, h1, h2⟩
    have hk : k < 13 := by
      rcases Nat.lt_or_ge k 13 with h | h
      · exact h
      · have := Nat.pow_le_pow_right (n := 2) (by decide) h
        omega
    unfold alignP
    rcases (show k = 0 ∨ k = 1 ∨ k = 2 ∨ k = 3 ∨ k = 4 ∨ k = 5 ∨ k = 6 ∨ k = 7 ∨ k = 8 ∨ k = 9 ∨ k = 10 ∨ k = 11 ∨ k = 12 by omega) with rfl | rfl | rfl | rfl | rfl | rfl | rfl | rfl | rfl | rfl | rfl | rfl | rfl <;> omega
theorem ralign_any {a : Nat} (ha : a < 18446744073709551616) (w : World) :
    Calls Tryz.prog 121 #[.int .u64 a] w fun e w' => e = .returned (.bool (decide (alignP a))) ∧ w = w' := by
  by_cases hp : ∃ k, k < 64 ∧ a = 2 ^ k
  · obtain ⟨k, hk, ek⟩ := hp
    have hb := pow_bounds k hk
    rw [← ek] at hb
    have hup := rup_core0 a a hb.1 ha ha (Nat.mod_self a) (power_yes k a hk ek)
    have hi : decide (alignP a) = decide (16 ≤ a ∧ a ≤ 4096) := by
      apply Bool.eq_iff_iff.2
      rw [decide_eq_true_iff, decide_eq_true_iff, align_iff]
      exact ⟨fun h => h.2, fun h => ⟨⟨k, hk, ek⟩, h⟩⟩
    rw [hi]
    clear hi ek hb
    by_cases h1 : 16 ≤ a
    · have h1' : (16 : Int) ≤ (a : Int) := by omega
      by_cases h2 : a ≤ 4096
      · have h2' : (a : Int) ≤ 4096 := by omega
        rw [decide_eq_true ⟨h1, h2⟩]
        go_enter Tryz.func121, Tryz.ntmps121
        go_wp2_with (go_at_call 46; refine (hup _).mono ?_; rintro e w1 ⟨rfl, rfl⟩)
        go_ret
        exact ⟨rfl, rfl⟩
      · have h2' : ¬ (a : Int) ≤ 4096 := by omega
        rw [decide_eq_false fun h => h2 h.2]
        have h2d := decide_eq_false h2'
        go_enter Tryz.func121, Tryz.ntmps121
        go_wp2_with (go_at_call 46; refine (hup _).mono ?_; rintro e w1 ⟨rfl, rfl⟩)
        go_ret
        exact ⟨rfl, rfl⟩
    · have h1' : ¬ (16 : Int) ≤ (a : Int) := by omega
      rw [decide_eq_false fun h => h1 h.1]
      go_enter Tryz.func121, Tryz.ntmps121
      go_wp2_with (go_at_call 46; refine (hup _).mono ?_; rintro e w1 ⟨rfl, rfl⟩)
      go_ret
      exact ⟨rfl, rfl⟩
  · have hno : ∀ k, a ≠ 2 ^ k := fun k e => by
      rcases Nat.lt_or_ge k 64 with h | h
      · exact hp ⟨k, h, e⟩
      · have := Nat.pow_le_pow_right (n := 2) (by decide) h
        omega
    have hup := rup_not a a ha hno
    rw [decide_eq_false fun h => hp (align_iff.1 h).1]
    clear hno hp
    go_enter Tryz.func121, Tryz.ntmps121
    go_wp2_with (go_at_call 46; refine (hup _).mono ?_; rintro e w1 ⟨rfl, rfl⟩)
    go_ret
    exact ⟨rfl, rfl⟩
theorem rfree_any (off s : Nat) (w : World) :
    Calls Tryz.prog 74 #[.int .u64 off, .int .u64 s] w fun e w' => e = .returned (.agg (freeB off s).row.toArray) ∧ w.grownBy w' none := by
  go_enter Tryz.func74, Tryz.ntmps74
  go_wp2
  refine bodyPost_ret (v := .agg #[.int .u64 off, .int .u64 s, .bool false, .int .i64 0, .int .u64 0]) (by simp [results, Tryz.results74, go_sem]) rfl ?_
  exact ⟨rfl, grown_trans (World.grownBy_alloc _ _ _) (World.grownBy_alloc _ _ _)⟩
def heapV (E : Nat) (b : Value) (vs : Nat → Value) : Value := .agg #[.int .u64 (E : Nat), b, vs 0, vs 1, vs 2, vs 3, vs 4, vs 5, vs 6, vs 7]
structure HvIs (w : World) (base : Nat) (v : Value) (E : Nat) (bs : List Blk) (L : Nat → List Nat) : Prop where
  is : ∃ b vs, v = heapV E b vs ∧ OwnB w base 61 b bs ∧ ∀ c, c < 8 → OwnW w base (vs c) (L c)
theorem HvIs.later {w w' : World} {base : Nat} {v : Value} {E : Nat} {bs : List Blk} {L : Nat → List Nat} (h : HvIs w base v E bs L) (hg : w.grownBy w' none) : HvIs w' base v E bs L := by
  obtain ⟨b, vs, h1, h2, h3⟩ := h.is
  exact ⟨b, vs, h1, h2.later hg, fun c hc => (h3 c hc).later hg⟩
theorem HvIs.mono {w : World} {base base' : Nat} {v : Value} {E : Nat} {bs : List Blk} {L : Nat → List Nat} (h : HvIs w base v E bs L) (hb : base' ≤ base) : HvIs w base' v E bs L := by
  obtain ⟨b, vs, h1, h2, h3⟩ := h.is
  exact ⟨b, vs, h1, h2.mono hb, fun c hc => (h3 c hc).mono hb⟩
theorem ownB_one {V : World} {base b : Nat} (hb : V.heap.size = b) (h : base ≤ b) (k : Blk) : OwnB (V.alloc (.cells k.row.toArray 61)) base 61 (.slice (some ⟨b, 0, none⟩) 1 1) [k] := by
  subst hb
  have := World.ownsRow_lit (base := base) (e := 61) (size := 5) V k.row.toArray 1 h (by decide) rfl
  unfold OwnB
  rw [show cellsB [k] = k.row.toArray.toList by simp [cellsB]]
  exact this
theorem rnew10_any (E : Nat) (hE : 3776 ≤ E) (h64 : E < 18446744073709551616) (w : World) :
    Calls Tryz.prog 26 #[.int .u64 E] w fun e w' => ∃ v, e = .returned v ∧ HvIs w' w.heap.size v E [freeB 3776 (E - 3776)] (fun _ => []) ∧ w.grownBy w' none := by
  obtain ⟨s, es⟩ : ∃ s, E - 3776 = s := ⟨_, rfl⟩
  have e1 : IntKind.u64.wrap ((E : Int) - 3776) = (s : Nat) := by rw [IntKind.wrap_u64]; omega
  rw [es]
  clear es
  go_enter Tryz.func26, Tryz.ntmps26
  go_wp2
  refine bodyPost_ret (v := heapV E (.slice (some ⟨w.heap.size + 1 + 1, 0, none⟩) 1 1) (fun _ => .slice none 0 0)) (by simp [results, Tryz.results26, go_sem, heapV]) rfl ?_
  refine ⟨_, rfl, ⟨_, _, rfl, ?_, fun c _ => World.ownsRow_nil _ _ _ _⟩, grown_trans (World.grownBy_alloc _ _ _) (grown_trans (World.grownBy_alloc _ _ _) (World.grownBy_alloc _ _ _))⟩
  exact ownB_one (by simp) (by omega) (freeB 3776 s)
theorem freesB_take (bs : List Blk) {k : Nat} (h : k < bs.length) : freesB (bs.take (k + 1)) = if gU bs k = true then freesB (bs.take k) else freesB (bs.take k) ++ [gO bs k] := by
  have e : bs.take (k + 1) = bs.take k ++ [bs.getD k default] := by
    rw [List.take_succ_eq_append_getElem h, List.getD_eq_getElem?_getD, List.getElem?_eq_getElem h]
    rfl
  rw [e, freesB_append]
  unfold gU gO
  obtain ⟨x, hx⟩ : ∃ x, bs.getD k default = x := ⟨_, rfl⟩
  rw [hx]
  cases hu : x.u with
  | true => simp [freesB, hu]
  | false => simp [freesB, hu]
theorem freesB_len (bs : List Blk) : (freesB bs).length ≤ bs.length := by
  unfold freesB
  rw [List.length_map]
  exact List.length_filter_le _ _
set_option maxHeartbeats 4000000 in
theorem rfrees_any {w : World} {base : Nat} {v : Value} {E : Nat} {bs : List Blk} {L : Nat → List Nat} (h : HvIs w base v E bs L) (hn : bs.length ≤ 1000000) :
    Calls Tryz.prog 40 #[v] w fun e w' => ∃ fv, e = .returned fv ∧ OwnW w' w.heap.size fv (freesB bs) ∧ w.grownBy w' none := by
  obtain ⟨b, vs, rfl, ho, hl⟩ := h.is
  obtain ⟨la, c, rfl, hb⟩ := ho.at_
  obtain ⟨n, hn'⟩ : ∃ n, bs.length = n := ⟨_, rfl⟩
  rw [hn'] at hn ⊢
  have hg0 : w.grownBy (w.alloc (.cells #[.int .u64 E, .slice la n c, vs 0, vs 1, vs 2, vs 3, vs 4, vs 5, vs 6, vs 7] 30)) none := World.grownBy_alloc _ _ _
  have hbx : ∀ V : World, (w.alloc (.cells #[.int .u64 E, .slice la n c, vs 0, vs 1, vs 2, vs 3, vs 4, vs 5, vs 6, vs 7] 30)).grownBy V none → V.cell? ⟨w.heap.size, 1, none⟩ = some (.slice la n c) := fun V hg => by
    have := (hg.block _ (by simp) (by simp)).trans (heap_alloc_new' w (.cells #[.int .u64 E, .slice la n c, vs 0, vs 1, vs 2, vs 3, vs 4, vs 5, vs 6, vs 7] 30))
    simp [World.cell?, this]
  have hbl := fun (V : World) (hg : w.grownBy V none) => hb.later hg
  have HN := Lib.hid hn'
  have HBL := Lib.hid hbl
  clear ho hl hb hn' hbl h
  unfold heapV
  go_enter Tryz.func40, Tryz.ntmps40
  go_wp2
  obtain ⟨W0, hW0⟩ : ∃ W0, w.alloc (.cells #[.int .u64 E, .slice la n c, vs 0, vs 1, vs 2, vs 3, vs 4, vs 5, vs 6, vs 7] 30) = W0 := ⟨_, rfl⟩
  rw [hW0] at hg0 hbx ⊢
  have HBX := Lib.hid hbx
  have HG0 := Lib.hid hg0
  have hsz0 := hg0.size
  clear hbx hW0 hg0
  go_loopw [4, 3] (fun i v wr => ∃ k : Nat, k ≤ n ∧ i = .int .i64 k ∧ OwnW wr W0.heap.size v (freesB (bs.take k)) ∧ W0.grownBy wr none) (fun i _ _ => n - (intOf i).toNat)
  case atStart => exact ⟨0, Nat.zero_le _, rfl, World.ownsRow_nil _ _ _ _, grown_refl _ _⟩
  case round =>
    obtain ⟨k, hk, rfl, hown, hgr⟩ := hrel
    have q0 := HBX.out wr hgr
    rcases Nat.lt_or_ge k n with h1 | h1
    · have h1' : (k : Int) < (n : Int) := by omega
      obtain ⟨bb, off, rfl, hbb, hcs⟩ := (HBL.out wr (grown_trans HG0.out hgr)).cells (by rw [HN.out]; omega)
      obtain ⟨c0, _, c2, _, _⟩ := hcs k (by rw [HN.out]; exact h1)
      have hnext := freesB_take bs (k := k) (by rw [HN.out]; exact h1)
      have hflen := freesB_len (bs.take k)
      rw [List.length_take, HN.out] at hflen
      obtain ⟨x, hx⟩ : ∃ x, gO bs k = x := ⟨_, rfl⟩
      obtain ⟨fl, hfl⟩ : ∃ fl, freesB (bs.take k) = fl := ⟨_, rfl⟩
      rw [hx] at c0 hnext
      rw [hfl] at hown hnext hflen
      have HOWN := Lib.hid hown
      have hsw := hgr.size
      cases hu : gU bs k with
      | true =>
        rw [hu] at c2 hnext
        rw [if_pos rfl] at hnext
        have HNX := Lib.hid hnext
        clear hnext hcs hx hfl hown hu
        go_wp2
        go_roundw
        case rel => exact ⟨k + 1, by omega, by go_num, by rw [HNX.out]; exact HOWN.out, hgr⟩
        case measure => simp [intOf]; omega
      | false =>
        rw [hu] at c2 hnext
        rw [if_neg (by simp)] at hnext
        have HNX := Lib.hid hnext
        clear hnext hcs hx hfl hown hu
        go_wp2_with (at_builtin; go_must (refine wpList_append_num rfl _ _ rfl W0.heap.size _ fl rfl HOWN.out x rfl (by omega) (by omega) ?_); intro v8 w8 hown8 hg8 hloc8)
        go_roundw
        case rel => exact ⟨k + 1, by omega, by go_num, by rw [HNX.out]; exact hown8, grown_step hgr hg8 (fun i hi => .inl (World.ownsRow.lt HOWN.out i hi).1)⟩
        case measure => simp [intOf]; omega
    · obtain rfl : k = n := by omega
      rw [← HN.out, List.take_length] at hown
      obtain ⟨fa, fn, fc, hfv⟩ := wv_form hown
      subst hfv
      have HOWN := Lib.hid hown
      clear hown
      go_wp2
      go_ret
      exact ⟨_, rfl, HOWN.out.mono HG0.out.size, grown_trans HG0.out hgr⟩
end Go.Proofs.YtcbdbflgfhbikaaGreat
namespace Go.Proofs.YtcbdbflgfhbikaaGreat
open Go.RowKit
set_option maxRecDepth 100000
section
variable {w0 w w' : World} {T M : Nat} {R : Option Nat} {B D : Nat} {ws : List Nat} {l l' : List (Nat × Nat)} {off : Nat} {ls : List Nat}
theorem csize_any (h : Thinks w T M R B D ws l) (off : Nat) (ho : off < 18446744073709551616) :
    Calls Tryz.prog 88 #[.pointer (some ⟨T, 0, none⟩), .int .u64 off] w fun e w' => e = .returned (.int .u64 (tS (txSee ws l off) : Nat)) ∧ w.grownBy w' none := by
  have hld := txload_any h off ho
  have hlt := txSee_lt h.seg.words h.ok off
  obtain ⟨x, hx⟩ : ∃ x, txSee ws l off = x := ⟨_, rfl⟩
  rw [hx] at hld hlt ⊢
  have hun := fun w1 => tunpack_any x hlt w1
  obtain ⟨s, hs⟩ : ∃ s, tS x = s := ⟨_, rfl⟩
  rw [hs] at hun ⊢
  go_enter Tryz.func88, Tryz.ntmps88
  go_wp2_with (first | (go_at_call 17; (with_reducible refine hld.mono ?_); rintro e w1 ⟨rfl, hg1⟩) | (go_at_call 91; (with_reducible refine (hun _).mono ?_); rintro e w2 ⟨rfl, hg2⟩; have G2 := grown_trans hg1 hg2))
  go_ret
  exact ⟨rfl, grown_trans G2 (World.grownBy_alloc _ _ _)⟩
theorem pad_up {off a : Nat} (ha : alignP a) (ho : off % 16 = 0) (hr : (off + 32) % a ≠ 0) : (off + 32 + 48 + (a - 1)) / a * a = off + 32 + padN off a := by
  unfold padN
  rw [if_neg hr]
  rcases ha with rfl | rfl | rfl | rfl | rfl | rfl | rfl | rfl | rfl <;> split <;> omega
theorem cpad_any {off a : Nat} (ha : alignP a) (ho : off % 16 = 0) (hlt : off < 1000000000) (w : World) :
    Calls Tryz.prog 49 #[.int .u64 off, .int .u64 a] w fun e w' => e = .returned (.int .u64 (padN off a : Nat)) ∧ w = w' := by
  have hal := ha.le
  have hpl := padN_al ha ho
  have a0 : ¬ (a : Int) = 0 := by omega
  have e32 : IntKind.u64.wrap ((off : Int) + 32) = ((off + 32 : Nat) : Int) := by rw [IntKind.wrap_u64]; omega
  obtain ⟨r, er⟩ : ∃ r, (off + 32) % a = r := ⟨_, rfl⟩
  have e3 : ((off + 32 : Nat) : Int).tmod (a : Int) = (r : Nat) := by rw [Int.tmod_eq_emod_of_nonneg (by omega)]; omega
  obtain ⟨k, hk, ek⟩ : ∃ k, k < 64 ∧ a = 2 ^ k := by
    rcases ha with rfl | rfl | rfl | rfl | rfl | rfl | rfl | rfl | rfl
    · exact ⟨4, by decide, by decide⟩
    · exact ⟨5, by decide, by decide⟩
    · exact ⟨6, by decide, by decide⟩
    · exact ⟨7, by decide, by decide⟩
    · exact ⟨8, by decide, by decide⟩
    · exact ⟨9, by decide, by decide⟩
    · exact ⟨10, by decide, by decide⟩
    · exact ⟨11, by decide, by decide⟩
    · exact ⟨12, by decide, by decide⟩
  have hup := fun w => up_pow_low (off + 32 + 48) k a hk ek (by omega) w
  by_cases hr : r = 0
  · subst hr
    have hP : padN off a = 0 := by unfold padN; rw [if_pos er]
    rw [hP]
    obtain ⟨o32, eo⟩ : ∃ q, off + 32 = q := ⟨_, rfl⟩
    rw [eo] at e32 e3
    clear hup ek hk er ha hpl hP eo
    go_enter Tryz.func49, Tryz.ntmps49
    go_wp2
    go_ret
    exact ⟨rfl, rfl⟩
  · have hpu := pad_up ha ho (by rw [er]; exact hr)
    obtain ⟨P, hP⟩ : ∃ P, padN off a = P := ⟨_, rfl⟩
    rw [hP] at hpu hpl ⊢
    rw [hpu] at hup
    obtain ⟨o32, eo⟩ : ∃ q, off + 32 = q := ⟨_, rfl⟩
    rw [eo] at e32 e3 hup
    have e48 : IntKind.u64.wrap ((o32 : Int) + 48) = ((o32 + 48 : Nat) : Int) := by rw [IntKind.wrap_u64]; omega
    have eP : IntKind.u64.wrap (((o32 + P : Nat) : Int) - (o32 : Int)) = (P : Nat) := by rw [IntKind.wrap_u64]; omega
    obtain ⟨o48, eo8⟩ : ∃ q, o32 + 48 = q := ⟨_, rfl⟩
    obtain ⟨oP, eoP⟩ : ∃ q, o32 + P = q := ⟨_, rfl⟩
    rw [eo8] at hup e48
    rw [eoP] at hup eP
    have hr0 : ¬ (r : Int) = 0 := by omega
    have hrb : ((r : Int) == 0) = false := by simpa using hr
    clear ek hk er ha hpl hpu hP eo eo8 eoP hal ho
    go_enter Tryz.func49, Tryz.ntmps49
    go_wp2_with (first | (go_at_call 66; (with_reducible refine (hup _).mono ?_); rintro e w1 ⟨rfl, rfl⟩))
    go_ret
    exact ⟨rfl, rfl⟩
theorem see_off {off v : Nat} (hws : 8 * ws.length = 4800) (h8 : off % 8 = 0) (hlt : off < 4800) (x : Nat) : txSee ws (txStore ws l off v) x = if x = off then v else txSee ws l x :=
  see_stored ⟨h8, by omega⟩ x
theorem hwrite (h : Txs w0 w T M R B D ws l) (hws : 8 * ws.length = 4800) {s : Nat} {u : Bool} {o : Int} (hm : mayP s u o) (hi : inP (txSee ws l 16) off s) (hE : txSee ws l 16 ≤ 4800) :
    Calls Tryz.prog 55 #[.pointer (some ⟨T, 0, none⟩), .int .u64 off, .agg #[.int .u64 s, .bool u, .int .i64 o]] w fun e w' => e = .returned (.int .i64 0) ∧ ∃ R' l', Txs w0 w' T M R' B D ws l' ∧ (∀ x, txSee ws l' x = if x = off ∨ x = off + s - 8 then packN s u o else txSee ws l x) ∧ Keep w R w' R' := by
  have hb := may_bounds hm
  unfold inP at hi
  refine (twrite_yes h.tx off s u o (by omega) hm hi).mono ?_
  rintro e w' ⟨rfl, ht⟩
  obtain ⟨R', h1, h2⟩ := step_keep h ht
  refine ⟨rfl, R', _, h1, fun x => ?_, h2⟩
  rw [see_off hws (by omega) (by omega), see_off hws (by omega) (by omega)]
  by_cases e1 : x = off + s - 8
  · rw [if_pos e1, if_pos (.inr e1)]
  · by_cases e2 : x = off
    · rw [if_neg e1, if_pos e2, if_pos (.inl e2)]
    · rw [if_neg e1, if_neg e2, if_neg (fun e => e.elim e2 e1)]
theorem hdelete (h : Txs w0 w T M R B D ws l) (hws : 8 * ws.length = 4800) (hH : Hung (txSee ws l) ls) (ho : off ∈ ls) :
    Calls Tryz.prog 53 #[.pointer (some ⟨T, 0, none⟩), .int .u64 off] w fun e w' => e = .returned (.bool true) ∧ ∃ R' l', Txs w0 w' T M R' B D ws l' ∧ Hung (txSee ws l') (ls.filter fun a => decide (a ≠ off)) ∧ Kept ls (txSee ws l) (txSee ws l') ∧ Keep w R w' R' := by
  have hG := hH.lone.free
  have hI := hH.is hG (fun x hx => upL_mem.2 hx)
  have hB : Bed ws l (fun x => tS (txSee ws l x)) (upL ls) := ⟨hG, hws, fun _ _ => rfl⟩
  refine (tdelete_yes h.tx hB hI (upL_mem.2 ho) ho).mono ?_
  rintro e w' ⟨rfl, l', ht, hB', hI', hK⟩
  obtain ⟨R', h1, h2⟩ := step_keep h ht
  exact ⟨rfl, R', l', h1, hI'.hung fun x hx => hB'.keys x (hI'.sub x hx), fun q a b => hK q a fun x hx => b x (upL_mem.1 hx), h2⟩
theorem hinsert (h : Txs w0 w T M R B D ws l) (hws : 8 * ws.length = 4800) (hH : Hung (txSee ws l) ls) (hl : Lone (ls ++ [off])) :
    Calls Tryz.prog 56 #[.pointer (some ⟨T, 0, none⟩), .int .u64 off] w fun e w' => e = .returned (.tuple #[]) ∧ ∃ R' l', Txs w0 w' T M R' B D ws l' ∧ Hung (txSee ws l') (ls ++ [off]) ∧ Kept (ls ++ [off]) (txSee ws l) (txSee ws l') ∧ Keep w R w' R' := by
  have hG := hl.free
  have hI := hH.is hG (fun x hx => upL_mem.2 (by simp [hx]))
  have hB : Bed ws l (fun x => tS (txSee ws l x)) (upL (ls ++ [off])) := ⟨hG, hws, fun _ _ => rfl⟩
  have hn : off ∉ ls := fun hm => (List.nodup_append.1 hl.nodup).2.2 off hm off (by simp) rfl
  refine (tinsert_any h.tx hB hI (upL_mem.2 (by simp)) hn).mono ?_
  rintro e w' ⟨rfl, l', ht, hB', hI', hK⟩
  obtain ⟨R', h1, h2⟩ := step_keep h ht
  exact ⟨rfl, R', l', h1, hI'.hung fun x hx => hB'.keys x (hI'.sub x hx), fun q a b => hK q a fun x hx => b x (upL_mem.1 hx), h2⟩
theorem hspare (h : Txs w0 w T M R B D ws l) (hws : 8 * ws.length = 4800) (hH : Hung (txSee ws l) ls) {s : Nat} (hm : mayP s false 0) (hi : inP (txSee ws l 16) off s) (hE : txSee ws l 16 ≤ 4800) (hf : ∀ y ∈ ls, y + 48 ≤ off ∨ off + s ≤ y) :
    Calls Tryz.prog 114 #[.pointer (some ⟨T, 0, none⟩), .int .u64 off, .int .u64 s] w fun e w' => e = .returned (.tuple #[]) ∧ ∃ R' l', Txs w0 w' T M R' B D ws l' ∧ Hung (txSee ws l') (ls ++ [off]) ∧ Stay (txSee ws l) (txSee ws l') off (off + s) ls ∧ (txSee ws l' off = packN s false 0 ∧ txSee ws l' (off + s - 8) = packN s false 0) ∧ Keep w R w' R' := by
  have hb := may_bounds hm
  have hi' := hi
  unfold inP at hi'
  have hw1 := hwrite h hws hm hi hE
  have hl : Lone (ls ++ [off]) := hH.lone.snoc (by omega) fun y hy => by have := hf y hy; omega
  have hon := hH.lone.on
  have hins : ∀ (w1 : World) (R1 : Option Nat) (l1 : List (Nat × Nat)), Txs w0 w1 T M R1 B D ws l1 → (∀ x, txSee ws l1 x = if x = off ∨ x = off + s - 8 then packN s false 0 else txSee ws l x) → Calls Tryz.prog 56 #[.pointer (some ⟨T, 0, none⟩), .int .u64 off] w1 fun e w' => e = .returned (.tuple #[]) ∧ ∃ R' l', Txs w0 w' T M R' B D ws l' ∧ Hung (txSee ws l') (ls ++ [off]) ∧ Stay (txSee ws l) (txSee ws l') off (off + s) ls ∧ (txSee ws l' off = packN s false 0 ∧ txSee ws l' (off + s - 8) = packN s false 0) ∧ Keep w1 R1 w' R' := by
    intro w1 R1 l1 X1 e1
    have hH1 : Hung (txSee ws l1) ls := hH.congr (by rw [e1, if_neg (by omega)]) fun x hx => by
      have := hf x hx
      have := hon x hx
      rw [e1, e1, e1, if_neg (by omega), if_neg (by omega), if_neg (by omega)]
      exact ⟨rfl, rfl, rfl⟩
    refine (hinsert X1 hws hH1 hl).mono ?_
    rintro e w' ⟨rfl, R', l', X', hH', hK, K'⟩
    have hfar : ∀ y ∈ ls ++ [off], y = off ∨ y + 48 ≤ off ∨ off + s ≤ y := fun y hy => by
      rcases List.mem_append.1 hy with hy | hy
      · exact .inr (hf y hy)
      · exact .inl (List.mem_singleton.1 hy)
    refine ⟨rfl, R', l', X', hH', ?_, ⟨?_, ?_⟩, K'⟩
    · refine Stay.trans (g := txSee ws l1) (fun x a b c => by rw [e1, if_neg (by omega)]) ?_
      refine (Stay.of_kept hK).less fun y hy => ?_
      rcases List.mem_append.1 hy with hy | hy
      · exact .inl hy
      · rw [List.mem_singleton.1 hy]; exact .inr (by omega)
    · rw [hK off (by omega) (fun y hy => by have := hfar y hy; omega), e1, if_pos (.inl rfl)]
    · rw [hK _ (by omega) (fun y hy => by have := hfar y hy; omega), e1, if_pos (.inr rfl)]
  have HINS := Lib.hid hins
  clear hins hH hm hi hE hf hb hi' hl hon
  go_enter Tryz.func114, Tryz.ntmps114
  go_wp2_with (first | (go_at_call 55; (with_reducible refine hw1.mono ?_); rintro e w1 ⟨rfl, R1, l1, X1, e1, K1⟩; have hin := HINS.out w1 R1 l1 X1 e1) | (go_at_call 56; (with_reducible refine hin.mono ?_); rintro e w2 ⟨rfl, R2, l2, X2, hH2, hS2, hT2, K2⟩))
  go_end0
  exact ⟨rfl, R2, l2, X2, hH2, hS2, hT2, K1.trans K2⟩
def FillF (f g : Nat → Nat) (off n k : Nat) : Prop := ∀ x, g x = if x = off + 8 then n else if off + 32 ≤ x ∧ x < off + 32 + 8 * k ∧ x % 8 = 0 then 0 else f x
theorem FillF.next {f g g' : Nat → Nat} {n k : Nat} (h : FillF f g off n k) (h8 : off % 8 = 0) (hg : ∀ x, g' x = if x = off + 32 + 8 * k then 0 else g x) : FillF f g' off n (k + 1) := fun x => by
  rw [hg, h x]
  by_cases e1 : x = off + 32 + 8 * k
  · rw [if_pos e1, if_neg (by omega), if_pos (by omega)]
  · rw [if_neg e1]
    by_cases e2 : x = off + 8
    · rw [if_pos e2, if_pos e2]
    · rw [if_neg e2, if_neg e2]
      by_cases e3 : off + 32 ≤ x ∧ x < off + 32 + 8 * k ∧ x % 8 = 0
      · rw [if_pos e3, if_pos (by omega)]
      · rw [if_neg e3, if_neg (by omega)]
set_option maxHeartbeats 4000000 in
theorem hfill (h : Txs w0 w T M R B D ws l) (hws : 8 * ws.length = 4800) {n : Nat} (h8 : off % 8 = 0) (hlt : off + 32 + n ≤ 4792) :
    Calls Tryz.prog 115 #[.pointer (some ⟨T, 0, none⟩), .int .u64 off, .int .u64 n] w fun e w' => e = .returned (.tuple #[]) ∧ ∃ R' l', Txs w0 w' T M R' B D ws l' ∧ FillF (txSee ws l) (txSee ws l') off n ((n + 7) / 8) ∧ Keep w R w' R' := by
  have hst := txstore_any h.tx (off + 8) n (by omega) (by omega)
  have hwd := fun w => words_any n (by omega) w
  obtain ⟨m, em⟩ : ∃ m, (n + 7) / 8 = m := ⟨_, rfl⟩
  rw [em] at hwd ⊢
  have hlim : off + 32 + 8 * m ≤ 4800 := by omega
  have e8 : IntKind.u64.wrap ((off : Int) + 8) = ((off + 8 : Nat) : Int) := by rw [IntKind.wrap_u64]; omega
  have e32 : IntKind.u64.wrap ((off : Int) + 32) = ((off + 32 : Nat) : Int) := by rw [IntKind.wrap_u64]; omega
  have hF0 : ∀ x, txSee ws (txStore ws l (off + 8) n) x = if x = off + 8 then n else txSee ws l x := fun x => see_off hws (by omega) (by omega) x
  have hF1 : FillF (txSee ws l) (txSee ws (txStore ws l (off + 8) n)) off n 0 := fun x => by
    rw [hF0]
    by_cases e : x = off + 8
    · rw [if_pos e, if_pos e]
    · rw [if_neg e, if_neg e, if_neg (by omega)]
  obtain ⟨f, hf⟩ : ∃ f, txSee ws l = f := ⟨_, rfl⟩
  rw [hf] at hF1 ⊢
  obtain ⟨l1, hl1⟩ : ∃ l1, txStore ws l (off + 8) n = l1 := ⟨_, rfl⟩
  rw [hl1] at hst hF1
  obtain ⟨o8, eo8⟩ : ∃ q, off + 8 = q := ⟨_, rfl⟩
  rw [eo8] at hst e8
  have HF1 := Lib.hid hF1
  have HX := Lib.hid h
  obtain ⟨o32, eo32⟩ : ∃ q, off + 32 = q := ⟨_, rfl⟩
  rw [eo32] at e32
  clear hF0 hF1 hl1 hf h
  go_enter Tryz.func115, Tryz.ntmps115
  go_wp2_with (first | (go_at_call 16; (with_reducible refine hst.mono ?_); rintro e w1 ⟨rfl, ht1⟩) | (go_at_call 32; (with_reducible refine (hwd _).mono ?_); rintro e w2 ⟨rfl, rfl⟩))
  obtain ⟨R1, X1, K1⟩ := step_keep HX.out ht1
  clear ht1 hst hwd
  go_loopw [14] (fun i wr => ∃ k : Nat, k ≤ m ∧ i = .int .u64 (k : Nat) ∧ ∃ Rk lk, Txs w0 wr T M Rk B D ws lk ∧ FillF f (txSee ws lk) off n k ∧ Keep w R wr Rk) (fun i _ => m - (intOf i).toNat)
  case atStart => exact ⟨0, Nat.zero_le _, rfl, R1, l1, X1, HF1.out, K1⟩
  case round =>
    obtain ⟨k, hk, rfl, Rk, lk, Xk, Fk, Kk⟩ := hrel
    clear X1 K1
    by_cases hkm : k < m
    · have hs : Calls Tryz.prog 16 #[.pointer (some ⟨T, 0, none⟩), .int .u64 (off + 32 + 8 * k : Nat), .int .u64 0] wr _ := txstore_any Xk.tx (off + 32 + 8 * k) 0 (by omega) (by decide)
      have hsee : ∀ x, txSee ws (txStore ws lk (off + 32 + 8 * k) 0) x = if x = off + 32 + 8 * k then 0 else txSee ws lk x := fun x => see_off hws (by omega) (by omega) x
      have hF2 := Fk.next h8 hsee
      obtain ⟨l2, hl2⟩ : ∃ l2, txStore ws lk (off + 32 + 8 * k) 0 = l2 := ⟨_, rfl⟩
      rw [hl2] at hs hF2
      have e1 : IntKind.u64.wrap ((k : Int) * 8) = ((8 * k : Nat) : Int) := by rw [IntKind.wrap_u64]; omega
      have e2 : IntKind.u64.wrap ((o32 : Int) + ((8 * k : Nat) : Int)) = ((off + 32 + 8 * k : Nat) : Int) := by rw [IntKind.wrap_u64]; omega
      obtain ⟨k8, ek8⟩ : ∃ q, 8 * k = q := ⟨_, rfl⟩
      rw [ek8] at e1
      have e2' : IntKind.u64.wrap ((o32 : Int) + (k8 : Int)) = ((off + 32 + 8 * k : Nat) : Int) := by rw [← ek8]; exact e2
      obtain ⟨ok, eok⟩ : ∃ q, off + 32 + 8 * k = q := ⟨_, rfl⟩
      rw [eok] at hs e2'
      have HF2 := Lib.hid hF2
      have HXk := Lib.hid Xk
      have HKk := Lib.hid Kk
      have ek1 : IntKind.u64.wrap ((k : Int) + 1) = ((k + 1 : Nat) : Int) := by rw [IntKind.wrap_u64]; omega
      have hms : m - (k + 1) < m - k := by omega
      clear hsee hF2 hl2 e2 ek8 eok Xk Fk Kk
      go_wp2_with (first | (go_at_call 16; (with_reducible refine hs.mono ?_); rintro e w3 ⟨rfl, ht3⟩))
      obtain ⟨R3, X3, K3⟩ := step_keep HXk.out ht3
      go_roundw
      case rel => exact ⟨k + 1, by omega, by go_num, R3, l2, X3, HF2.out, HKk.out.trans K3⟩
      case measure => simp [intOf]; omega
    · obtain rfl : k = m := by omega
      have hkk : ¬ (k : Int) < (k : Int) := by omega
      go_wp2
      go_end0
      exact ⟨rfl, Rk, lk, Xk, Fk, Kk⟩
end
end Go.Proofs.YtcbdbflgfhbikaaGreat
