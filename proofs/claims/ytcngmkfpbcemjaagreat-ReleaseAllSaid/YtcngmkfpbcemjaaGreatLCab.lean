/-
  Texts of one layer, one behind the other: memory, contracts of the functions, and what follows of them.
  Conditions: as each theorem says.
-/
import Derived.Test.YtcngmkfpbcemjaaGreatLCaa
import Derived.Test.YtcngmkfpbcemjaaGreatLWoa
import Derived.Test.YtcngmkfpbcemjaaGreatPhysD
import Derived.Test.YtcngmkfpbcemjaaGreatLPhd
import Derived.Test.YtcngmkfpbcemjaaGreatLTrb
import Derived.Test.YtcngmkfpbcemjaaGreatLTrc
set_option linter.unusedVariables false
set_option linter.unusedSimpArgs false
namespace Go.Proofs.YtcngmkfpbcemjaaGreat
open Go.RowKit
set_option maxRecDepth 100000
theorem padN_not {off a n : Nat} (ha : alignP a) (ho : off % 16 = 0) (hn : n % 16 = 0) (h : n < padN off a) : ¬ padIs off a n := fun e => by
  have := padN_least ha ho hn e
  omega
set_option maxHeartbeats 4000000 in
theorem rpad_any {off a : Nat} (ha : alignP a) (ho : off % 16 = 0) (hlt : off < 1000000000) (w : World) :
    Calls Tryz.prog 133 #[.int .u64 off, .int .u64 a] w fun e w' => e = .returned (.int .u64 (padN off a : Nat)) ∧ w = w' := by
  have hal := ha.le
  have hp := padN_is ha ho
  have hpl := padN_al ha ho
  have hno := fun n => padN_not (n := n) ha ho
  obtain ⟨P, hP⟩ : ∃ P, padN off a = P := ⟨_, rfl⟩
  rw [hP] at hp hpl hno ⊢
  have a0 : ¬ (a : Int) = 0 := by omega
  have e32 : IntKind.u64.wrap ((off : Int) + 32) = ((off + 32 : Nat) : Int) := by rw [IntKind.wrap_u64]; omega
  obtain ⟨o32, eo⟩ : ∃ q, off + 32 = q := ⟨_, rfl⟩
  unfold padIs at hp hno
  rw [eo] at e32 hp
  simp only [eo] at hno
  have ho32 : o32 < 1000000100 := by omega
  have HNO := Lib.hid hno
  have HP := Lib.hid hp
  clear eo ha hP hno hp
  go_enter Tryz.func133, Tryz.ntmps133
  go_wp2
  go_loopw [5] (fun v wr => ∃ n : Nat, n % 16 = 0 ∧ n ≤ P ∧ v = .int .u64 n ∧ wr = w) (fun v _ => P - (intOf v).toNat)
  case atStart => exact ⟨0, rfl, Nat.zero_le _, rfl, rfl⟩
  case round =>
    obtain ⟨n, hn16, hnP, rfl, rfl⟩ := hrel
    obtain ⟨m, em⟩ : ∃ m, o32 + n = m := ⟨_, rfl⟩
    have e2 : IntKind.u64.wrap ((o32 : Int) + (n : Int)) = (m : Nat) := by rw [IntKind.wrap_u64]; omega
    obtain ⟨r, er⟩ : ∃ r, m % a = r := ⟨_, rfl⟩
    have e3 : (m : Int).tmod (a : Int) = (r : Nat) := by rw [Int.tmod_eq_emod_of_nonneg (by omega)]; omega
    have e4 : (m : Int) % (a : Int) = (r : Nat) := by omega
    rcases Nat.lt_or_ge n P with hlt1 | hge
    · have hnot := HNO.out n hn16 hlt1
      rw [em, er] at hnot
      have e16 : IntKind.u64.wrap ((n : Int) + 16) = ((n + 16 : Nat) : Int) := by rw [IntKind.wrap_u64]; omega
      obtain ⟨n16, en⟩ : ∃ q, n + 16 = q := ⟨_, rfl⟩
      rw [en] at e16
      have h16P : n16 ≤ P := by omega
      have hn16' : n16 % 16 = 0 := by omega
      have hms : P - n16 < P - n := by omega
      by_cases hr : r = 0
      · subst hr
        have hb : 0 < n ∧ n < 48 := by
          rcases Nat.eq_zero_or_pos n with h | h
          · exact absurd ⟨rfl, .inl h⟩ hnot
          · refine ⟨h, ?_⟩
            rcases Nat.lt_or_ge n 48 with h2 | h2
            · exact h2
            · exact absurd ⟨rfl, .inr h2⟩ hnot
        have b1 : (0 : Int) < (n : Int) := by omega
        have b2 : (n : Int) < 48 := by omega
        clear hnot em er en
        go_wp2
        go_roundw
        case rel => exact ⟨n16, hn16', h16P, rfl, trivial⟩
        case measure => simp [intOf]; omega
      · have hr' : ¬ (r : Int) = 0 := by omega
        have hr2 : ((r : Int) != 0) = true := by simp; omega
        clear hnot em er en
        go_wp2
        go_roundw
        case rel => exact ⟨n16, hn16', h16P, rfl, trivial⟩
        case measure => simp [intOf]; omega
    · obtain rfl : n = P := by omega
      have hp := HP.out
      rw [em, er] at hp
      obtain ⟨hr0, hn48⟩ := hp
      subst hr0
      simp only [show ((0 : Nat) : Int) = 0 from rfl] at e3 e4
      clear er
      rcases hn48 with rfl | h48
      · obtain rfl : o32 = m := by omega
        simp only [show ((0 : Nat) : Int) = 0 from rfl] at e2 ⊢
        go_wp2
        go_ret
        exact ⟨rfl, rfl⟩
      · clear em
        have b1 : (0 : Int) < (n : Int) := by omega
        have b2 : ¬ (n : Int) < 48 := by omega
        go_wp2
        go_ret
        exact ⟨rfl, rfl⟩
theorem align_iff {a : Nat} : alignP a ↔ (∃ k, k < 64 ∧ a = 2 ^ k) ∧ 16 ≤ a ∧ a ≤ 4096 := by
  constructor
  · rintro (rfl | rfl | rfl | rfl | rfl | rfl | rfl | rfl | rfl)
    · exact ⟨⟨4, by decide, rfl⟩, by decide, by decide⟩
    · exact ⟨⟨5, by decide, rfl⟩, by decide, by decide⟩
    · exact ⟨⟨6, by decide, rfl⟩, by decide, by decide⟩
    · exact ⟨⟨7, by decide, rfl⟩, by decide, by decide⟩
    · exact ⟨⟨8, by decide, rfl⟩, by decide, by decide⟩
    · exact ⟨⟨9, by decide, rfl⟩, by decide, by decide⟩
    · exact ⟨⟨10, by decide, rfl⟩, by decide, by decide⟩
    · exact ⟨⟨11, by decide, rfl⟩, by decide, by decide⟩
    · exact ⟨⟨12, by decide, rfl⟩, by decide, by decide⟩
  · rintro ⟨⟨k, _, e⟩, h1, h2⟩
    have hk : k < 13 := by
      rcases Nat.lt_or_ge k 13 with h | h
      · exact h
      · have := Nat.pow_le_pow_right (n := 2) (by decide) h
        omega
    unfold alignP
    rcases (show k = 0 ∨ k = 1 ∨ k = 2 ∨ k = 3 ∨ k = 4 ∨ k = 5 ∨ k = 6 ∨ k = 7 ∨ k = 8 ∨ k = 9 ∨ k = 10 ∨ k = 11 ∨ k = 12 by omega) with rfl | rfl | rfl | rfl | rfl | rfl | rfl | rfl | rfl | rfl | rfl | rfl | rfl <;> omega
theorem ralign_any {a : Nat} (ha : a < 18446744073709551616) (w : World) :
    Calls Tryz.prog 132 #[.int .u64 a] w fun e w' => e = .returned (.bool (decide (alignP a))) ∧ w = w' := by
  by_cases hp : ∃ k, k < 64 ∧ a = 2 ^ k
  · obtain ⟨k, hk, ek⟩ := hp
    have hb := pow_bounds k hk
    rw [← ek] at hb
    have hup := rup_core0 a a hb.1 ha ha (Nat.mod_self a) (power_yes k a hk ek)
    have hi : decide (alignP a) = decide (16 ≤ a ∧ a ≤ 4096) := by
      apply Bool.eq_iff_iff.2
      rw [decide_eq_true_iff, decide_eq_true_iff, align_iff]
      exact ⟨fun h => h.2, fun h => ⟨⟨k, hk, ek⟩, h⟩⟩
    rw [hi]
    clear hi ek hb
    by_cases h1 : 16 ≤ a
    · have h1' : (16 : Int) ≤ (a : Int) := by omega
      by_cases h2 : a ≤ 4096
      · have h2' : (a : Int) ≤ 4096 := by omega
        rw [decide_eq_true ⟨h1, h2⟩]
        go_enter Tryz.func132, Tryz.ntmps132
        go_wp2_with (go_at_call 76; refine (hup _).mono ?_; rintro e w1 ⟨rfl, rfl⟩)
        go_ret
        exact ⟨rfl, rfl⟩
      · have h2' : ¬ (a : Int) ≤ 4096 := by omega
        rw [decide_eq_false fun h => h2 h.2]
        have h2d := decide_eq_false h2'
        go_enter Tryz.func132, Tryz.ntmps132
        go_wp2_with (go_at_call 76; refine (hup _).mono ?_; rintro e w1 ⟨rfl, rfl⟩)
        go_ret
        exact ⟨rfl, rfl⟩
    · have h1' : ¬ (16 : Int) ≤ (a : Int) := by omega
      rw [decide_eq_false fun h => h1 h.1]
      go_enter Tryz.func132, Tryz.ntmps132
      go_wp2_with (go_at_call 76; refine (hup _).mono ?_; rintro e w1 ⟨rfl, rfl⟩)
      go_ret
      exact ⟨rfl, rfl⟩
  · have hno : ∀ k, a ≠ 2 ^ k := fun k e => by
      rcases Nat.lt_or_ge k 64 with h | h
      · exact hp ⟨k, h, e⟩
      · have := Nat.pow_le_pow_right (n := 2) (by decide) h
        omega
    have hup := rup_not a a ha hno
    rw [decide_eq_false fun h => hp (align_iff.1 h).1]
    clear hno hp
    go_enter Tryz.func132, Tryz.ntmps132
    go_wp2_with (go_at_call 76; refine (hup _).mono ?_; rintro e w1 ⟨rfl, rfl⟩)
    go_ret
    exact ⟨rfl, rfl⟩
theorem rfree_any (off s : Nat) (w : World) :
    Calls Tryz.prog 103 #[.int .u64 off, .int .u64 s] w fun e w' => e = .returned (.agg (freeB off s).row.toArray) ∧ w.grownBy w' none := by
  go_enter Tryz.func103, Tryz.ntmps103
  go_wp2
  refine bodyPost_ret (v := .agg #[.int .u64 off, .int .u64 s, .bool false, .int .i64 0, .int .u64 0]) (by simp [results, Tryz.results103, go_sem]) rfl ?_
  exact ⟨rfl, grown_trans (World.grownBy_alloc _ _ _) (World.grownBy_alloc _ _ _)⟩
def heapV (E : Nat) (b : Value) (vs : Nat → Value) : Value := .agg #[.int .u64 (E : Nat), b, vs 0, vs 1, vs 2, vs 3, vs 4, vs 5, vs 6, vs 7]
structure HvIs (w : World) (base : Nat) (v : Value) (E : Nat) (bs : List Blk) (L : Nat → List Nat) : Prop where
  is : ∃ b vs, v = heapV E b vs ∧ OwnB w base 79 b bs ∧ ∀ c, c < 8 → OwnW w base (vs c) (L c)
theorem HvIs.later {w w' : World} {base : Nat} {v : Value} {E : Nat} {bs : List Blk} {L : Nat → List Nat} (h : HvIs w base v E bs L) (hg : w.grownBy w' none) : HvIs w' base v E bs L := by
  obtain ⟨b, vs, h1, h2, h3⟩ := h.is
  exact ⟨b, vs, h1, h2.later hg, fun c hc => (h3 c hc).later hg⟩
theorem HvIs.mono {w : World} {base base' : Nat} {v : Value} {E : Nat} {bs : List Blk} {L : Nat → List Nat} (h : HvIs w base v E bs L) (hb : base' ≤ base) : HvIs w base' v E bs L := by
  obtain ⟨b, vs, h1, h2, h3⟩ := h.is
  exact ⟨b, vs, h1, h2.mono hb, fun c hc => (h3 c hc).mono hb⟩
theorem ownB_one {V : World} {base b : Nat} (hb : V.heap.size = b) (h : base ≤ b) (k : Blk) : OwnB (V.alloc (.cells k.row.toArray 79)) base 79 (.slice (some ⟨b, 0, none⟩) 1 1) [k] := by
  subst hb
  have := World.ownsRow_lit (base := base) (e := 79) (size := 5) V k.row.toArray 1 h (by decide) rfl
  unfold OwnB
  rw [show cellsB [k] = k.row.toArray.toList by simp [cellsB]]
  exact this
theorem rnew10_any (E : Nat) (hE : 3776 ≤ E) (h64 : E < 18446744073709551616) (w : World) :
    Calls Tryz.prog 19 #[.int .u64 E] w fun e w' => ∃ v, e = .returned v ∧ HvIs w' w.heap.size v E [freeB 3776 (E - 3776)] (fun _ => []) ∧ w.grownBy w' none := by
  obtain ⟨s, es⟩ : ∃ s, E - 3776 = s := ⟨_, rfl⟩
  have e1 : IntKind.u64.wrap ((E : Int) - 3776) = (s : Nat) := by rw [IntKind.wrap_u64]; omega
  rw [es]
  clear es
  go_enter Tryz.func19, Tryz.ntmps19
  go_wp2
  refine bodyPost_ret (v := heapV E (.slice (some ⟨w.heap.size + 1 + 1, 0, none⟩) 1 1) (fun _ => .slice none 0 0)) (by simp [results, Tryz.results19, go_sem, heapV]) rfl ?_
  refine ⟨_, rfl, ⟨_, _, rfl, ?_, fun c _ => World.ownsRow_nil _ _ _ _⟩, grown_trans (World.grownBy_alloc _ _ _) (grown_trans (World.grownBy_alloc _ _ _) (World.grownBy_alloc _ _ _))⟩
  exact ownB_one (by simp) (by omega) (freeB 3776 s)
theorem freesB_take (bs : List Blk) {k : Nat} (h : k < bs.length) : freesB (bs.take (k + 1)) = if gU bs k = true then freesB (bs.take k) else freesB (bs.take k) ++ [gO bs k] := by
  have e : bs.take (k + 1) = bs.take k ++ [bs.getD k default] := by
    rw [List.take_succ_eq_append_getElem h, List.getD_eq_getElem?_getD, List.getElem?_eq_getElem h]
    rfl
  rw [e, freesB_append]
  unfold gU gO
  obtain ⟨x, hx⟩ : ∃ x, bs.getD k default = x := ⟨_, rfl⟩
  rw [hx]
  cases hu : x.u with
  | true => simp [freesB, hu]
  | false => simp [freesB, hu]
theorem freesB_len (bs : List Blk) : (freesB bs).length ≤ bs.length := by
  unfold freesB
  rw [List.length_map]
  exact List.length_filter_le _ _
set_option maxHeartbeats 4000000 in
theorem rfrees_any {w : World} {base : Nat} {v : Value} {E : Nat} {bs : List Blk} {L : Nat → List Nat} (h : HvIs w base v E bs L) (hn : bs.length ≤ 1000000) :
    Calls Tryz.prog 32 #[v] w fun e w' => ∃ fv, e = .returned fv ∧ OwnW w' w.heap.size fv (freesB bs) ∧ w.grownBy w' none := by
  obtain ⟨b, vs, rfl, ho, hl⟩ := h.is
  obtain ⟨la, c, rfl, hb⟩ := ho.at_
  obtain ⟨n, hn'⟩ : ∃ n, bs.length = n := ⟨_, rfl⟩
  rw [hn'] at hn ⊢
  have hg0 : w.grownBy (w.alloc (.cells #[.int .u64 E, .slice la n c, vs 0, vs 1, vs 2, vs 3, vs 4, vs 5, vs 6, vs 7] 30)) none := World.grownBy_alloc _ _ _
  have hbx : ∀ V : World, (w.alloc (.cells #[.int .u64 E, .slice la n c, vs 0, vs 1, vs 2, vs 3, vs 4, vs 5, vs 6, vs 7] 30)).grownBy V none → V.cell? ⟨w.heap.size, 1, none⟩ = some (.slice la n c) := fun V hg => by
    have := (hg.block _ (by simp) (by simp)).trans (heap_alloc_new' w (.cells #[.int .u64 E, .slice la n c, vs 0, vs 1, vs 2, vs 3, vs 4, vs 5, vs 6, vs 7] 30))
    simp [World.cell?, this]
  have hbl := fun (V : World) (hg : w.grownBy V none) => hb.later hg
  have HN := Lib.hid hn'
  have HBL := Lib.hid hbl
  clear ho hl hb hn' hbl h
  unfold heapV
  go_enter Tryz.func32, Tryz.ntmps32
  go_wp2
  obtain ⟨W0, hW0⟩ : ∃ W0, w.alloc (.cells #[.int .u64 E, .slice la n c, vs 0, vs 1, vs 2, vs 3, vs 4, vs 5, vs 6, vs 7] 30) = W0 := ⟨_, rfl⟩
  rw [hW0] at hg0 hbx ⊢
  have HBX := Lib.hid hbx
  have HG0 := Lib.hid hg0
  have hsz0 := hg0.size
  clear hbx hW0 hg0
  go_loopw [4, 3] (fun i v wr => ∃ k : Nat, k ≤ n ∧ i = .int .i64 k ∧ OwnW wr W0.heap.size v (freesB (bs.take k)) ∧ W0.grownBy wr none) (fun i _ _ => n - (intOf i).toNat)
  case atStart => exact ⟨0, Nat.zero_le _, rfl, World.ownsRow_nil _ _ _ _, grown_refl _ _⟩
  case round =>
    obtain ⟨k, hk, rfl, hown, hgr⟩ := hrel
    have q0 := HBX.out wr hgr
    rcases Nat.lt_or_ge k n with h1 | h1
    · have h1' : (k : Int) < (n : Int) := by omega
      obtain ⟨bb, off, rfl, hbb, hcs⟩ := (HBL.out wr (grown_trans HG0.out hgr)).cells (by rw [HN.out]; omega)
      obtain ⟨c0, _, c2, _, _⟩ := hcs k (by rw [HN.out]; exact h1)
      have hnext := freesB_take bs (k := k) (by rw [HN.out]; exact h1)
      have hflen := freesB_len (bs.take k)
      rw [List.length_take, HN.out] at hflen
      obtain ⟨x, hx⟩ : ∃ x, gO bs k = x := ⟨_, rfl⟩
      obtain ⟨fl, hfl⟩ : ∃ fl, freesB (bs.take k) = fl := ⟨_, rfl⟩
      rw [hx] at c0 hnext
      rw [hfl] at hown hnext hflen
      have HOWN := Lib.hid hown
      have hsw := hgr.size
      cases hu : gU bs k with
      | true =>
        rw [hu] at c2 hnext
        rw [if_pos rfl] at hnext
        have HNX := Lib.hid hnext
        clear hnext hcs hx hfl hown hu
        go_wp2
        go_roundw
        case rel => exact ⟨k + 1, by omega, by go_num, by rw [HNX.out]; exact HOWN.out, hgr⟩
        case measure => simp [intOf]; omega
      | false =>
        rw [hu] at c2 hnext
        rw [if_neg (by simp)] at hnext
        have HNX := Lib.hid hnext
        clear hnext hcs hx hfl hown hu
        go_wp2_with (at_builtin; go_must (refine wpList_append_num rfl _ _ rfl W0.heap.size _ fl rfl HOWN.out x rfl (by omega) (by omega) ?_); intro v8 w8 hown8 hg8 hloc8)
        go_roundw
        case rel => exact ⟨k + 1, by omega, by go_num, by rw [HNX.out]; exact hown8, grown_step hgr hg8 (fun i hi => .inl (World.ownsRow.lt HOWN.out i hi).1)⟩
        case measure => simp [intOf]; omega
    · obtain rfl : k = n := by omega
      rw [← HN.out, List.take_length] at hown
      obtain ⟨fa, fn, fc, hfv⟩ := wv_form hown
      subst hfv
      have HOWN := Lib.hid hown
      clear hown
      go_wp2
      go_ret
      exact ⟨_, rfl, HOWN.out.mono HG0.out.size, grown_trans HG0.out hgr⟩
end Go.Proofs.YtcngmkfpbcemjaaGreat
namespace Go.Proofs.YtcngmkfpbcemjaaGreat
open Go.RowKit
structure Lone (ls : List Nat) : Prop where
  on : ∀ x ∈ ls, x % 16 = 0 ∧ 3776 ≤ x ∧ x + 48 ≤ 4800
  nodup : ls.Nodup
  far : ∀ x ∈ ls, ∀ y ∈ ls, x ≠ y → x + 48 ≤ y ∨ y + 48 ≤ x
def upL (ls : List Nat) : List Nat := srtK (fun _ => 0) ls
theorem upL_mem {ls : List Nat} {x : Nat} : x ∈ upL ls ↔ x ∈ ls := srtK_mem
theorem Lone.free {ls : List Nat} (h : Lone ls) : FreeL (upL ls) := by
  refine ⟨fun x hx => h.on x (upL_mem.1 hx), ?_⟩
  have hr : Rising (fun _ => 0) (upL ls) := srtK_rising h.nodup
  refine List.Pairwise.imp_of_mem (fun {a b} ha hb hab => ?_) hr
  have hlt : a < b := by unfold blkLt keyLt at hab; simp only [Nat.lt_irrefl, false_or, true_and] at hab; exact hab
  have := h.far a (upL_mem.1 ha) b (upL_mem.1 hb) (by omega)
  omega
theorem FreeL.lone {ls : List Nat} (h : FreeL ls) : Lone ls := ⟨h.on, h.nodup, fun x hx y hy hn => h.far hx hy hn⟩
theorem Lone.perm {ls ks : List Nat} (h : Lone ls) (hp : ls.Perm ks) : Lone ks :=
  ⟨fun x hx => h.on x (hp.mem_iff.2 hx), hp.nodup_iff.1 h.nodup, fun x hx y hy => h.far x (hp.mem_iff.2 hx) y (hp.mem_iff.2 hy)⟩
theorem Lone.filter {ls : List Nat} (h : Lone ls) (p : Nat → Bool) : Lone (ls.filter p) :=
  ⟨fun x hx => h.on x (List.mem_filter.1 hx).1, h.nodup.filter p, fun x hx y hy => h.far x (List.mem_filter.1 hx).1 y (List.mem_filter.1 hy).1⟩
theorem Lone.snoc {ls : List Nat} {o : Nat} (h : Lone ls) (ho : o % 16 = 0 ∧ 3776 ≤ o ∧ o + 48 ≤ 4800) (hf : ∀ y ∈ ls, y + 48 ≤ o ∨ o + 48 ≤ y) : Lone (ls ++ [o]) := by
  refine ⟨fun x hx => ?_, ?_, fun x hx y hy hn => ?_⟩
  · rcases List.mem_append.1 hx with hx | hx
    · exact h.on x hx
    · rw [List.mem_singleton.1 hx]; exact ho
  · rw [List.nodup_append]
    refine ⟨h.nodup, by simp, fun a ha b hb e => ?_⟩
    rw [List.mem_singleton.1 hb] at e
    have := hf a ha
    omega
  · rcases List.mem_append.1 hx with hx | hx <;> rcases List.mem_append.1 hy with hy | hy
    · exact h.far x hx y hy hn
    · rw [List.mem_singleton.1 hy]; exact hf x hx
    · rw [List.mem_singleton.1 hx]; have := hf y hy; omega
    · rw [List.mem_singleton.1 hx, List.mem_singleton.1 hy] at hn; exact absurd rfl hn
structure Hung (f : Nat → Nat) (ls : List Nat) : Prop where
  lone : Lone ls
  tree : TreeOf f rkN (f 32) (srtK (fun x => tS (f x)) ls)
section
variable {f g : Nat → Nat} {ls ks : List Nat}
theorem Hung.is {G : List Nat} (h : Hung f ls) (hG : FreeL G) (hs : ∀ x ∈ ls, x ∈ G) : TreeIs f (fun x => tS (f x)) G ls := ⟨hG, hs, h.lone.nodup, h.tree⟩
theorem TreeIs.hung {z : Nat → Nat} {G : List Nat} (h : TreeIs f z G ls) (hz : ∀ x ∈ ls, tS (f x) = z x) : Hung f ls :=
  ⟨⟨fun x hx => h.free.on x (h.sub x hx), h.nodup, fun x hx y hy hn => h.free.far (h.sub x hx) (h.sub y hy) hn⟩, by rw [srtK_congr h.nodup hz]; exact h.tree⟩
theorem Hung.perm (h : Hung f ls) (hp : ls.Perm ks) : Hung f ks := ⟨h.lone.perm hp, by rw [← srtK_of_perm hp h.lone.nodup]; exact h.tree⟩
theorem Hung.congr (h : Hung f ls) (h32 : g 32 = f 32) (hg : ∀ x ∈ ls, g x = f x ∧ g (x + 8) = f (x + 8) ∧ g (x + 16) = f (x + 16)) : Hung g ls := by
  refine ⟨h.lone, ?_⟩
  rw [srtK_congr (y := fun x => tS (g x)) (z := fun x => tS (f x)) h.lone.nodup (fun x hx => by rw [(hg x hx).1]), h32]
  exact h.tree.frame fun x hx => (hg x (srtK_mem.1 hx)).2
end
def Stay (f g : Nat → Nat) (lo hi : Nat) (F : List Nat) : Prop := ∀ x, (x < lo ∨ hi ≤ x) → x ≠ 32 → (∀ y ∈ F, x ≠ y + 8 ∧ x ≠ y + 16) → g x = f x
section
variable {f g g' : Nat → Nat} {lo hi lo' hi' : Nat} {F G : List Nat}
theorem Stay.refl : Stay f f lo hi F := fun _ _ _ _ => rfl
theorem Stay.trans (h : Stay f g lo hi F) (k : Stay g g' lo hi F) : Stay f g' lo hi F := fun x a b c => (k x a b c).trans (h x a b c)
theorem Stay.grow (h : Stay f g lo hi F) (h1 : lo' ≤ lo) (h2 : hi ≤ hi') : Stay f g lo' hi' F := fun x a b c => h x (by omega) b c
theorem Stay.more (h : Stay f g lo hi F) (hs : ∀ y ∈ F, y ∈ G) : Stay f g lo hi G := fun x a b c => h x a b fun y hy => c y (hs y hy)
theorem Stay.less (h : Stay f g lo hi F) (hs : ∀ y ∈ F, y ∈ G ∨ (lo ≤ y + 8 ∧ y + 16 < hi)) : Stay f g lo hi G := fun x a b c => h x a b fun y hy => by
  rcases hs y hy with h1 | h1
  · exact c y h1
  · omega
theorem Stay.of_kept (h : Kept F f g) : Stay f g lo hi F := fun x a b c => h x b c
theorem Stay.put {off v : Nat} (h1 : lo ≤ off) (h2 : off < hi) (hg : ∀ x, g x = if x = off then v else f x) : Stay f g lo hi F := fun x a b c => by rw [hg, if_neg (by omega)]
theorem Stay.headOk (h : Stay f g lo hi F) (hlo : 48 ≤ lo) (hF : ∀ y ∈ F, 48 ≤ y) (hh : HeadOk f) : HeadOk g := hh.congr fun q hq hn => h q (by omega) hn fun y hy => by have := hF y hy; omega
theorem Stay.top (h : Stay f g lo hi F) (hlo : 48 ≤ lo) (hF : ∀ y ∈ F, 48 ≤ y) : g 16 = f 16 := h 16 (by omega) (by decide) fun y hy => by have := hF y hy; omega
theorem Told.stay {E o e : Nat} {A : List Blk} (h : Told f E o A e) (h3 : 3776 ≤ o) (hs : Stay f g lo hi F) (hr : ∀ x ∈ A, x.off + x.s ≤ lo ∨ hi ≤ x.off)
    (hF : ∀ x ∈ A, ∀ y ∈ F, (y = x.off ∧ x.u = false) ∨ y + 48 ≤ x.off ∨ x.off + x.s ≤ y) : Told g E o A e := by
  refine h.congr fun x hx => ?_
  have h1 := (h.within x hx).1
  have h2 := (h.is x hx).size
  have h4 := hr x hx
  have h5 := hF x hx
  refine ⟨hs _ (by omega) (by omega) fun y hy => ?_, hs _ (by omega) (by omega) fun y hy => ?_, fun hu => hs _ (by omega) (by omega) fun y hy => ?_⟩
  · have := h5 y hy; omega
  · have := h5 y hy; omega
  · rcases h5 y hy with h6 | h6
    · rw [hu] at h6; exact absurd h6.2 (by decide)
    · omega
end
structure HeapF (f : Nat → Nat) (E : Nat) (bs : List Blk) : Prop where
  head : HeadOk f
  top : f 16 = E
  low : E ≤ 4800
  told : Told f E 3776 bs E
  hung : Hung f (freesB bs)
section
variable {f g : Nat → Nat} {E lo hi : Nat} {bs A X Y C : List Blk} {L L' : Nat → List Nat}
theorem SoundF.heap (h : SoundF f E bs L) : HeapF f E bs := ⟨h.head, h.top, h.low, h.told, h.tree.hung fun _ _ => rfl⟩
theorem HeapF.freeL (h : HeapF f E bs) : FreeL (freesB bs) := h.told.freeL h.low
theorem HeapF.grid (h : HeapF f E bs) : Grid (usedB bs) := h.told.grid h.low
theorem HeapF.sound (h : HeapF f E bs) (hm : Mg bs) (hl : Ledg (usedB bs) f L) (hw : ∀ b ∈ bs, b.u = true → ∀ c, c < 8 → (b.off ∈ L c ↔ b.o = (c : Int) + 1)) : SoundF f E bs L :=
  ⟨h.head, h.top, h.low, h.told, hm, h.hung.is h.freeL (fun _ hx => hx), hl, hw⟩
theorem Told.free_far {o e : Nat} (h : Told f E o bs e) {x : Blk} (hx : x ∈ bs) {y : Nat} (hy : y ∈ freesB bs) : (y = x.off ∧ x.u = false) ∨ y + 48 ≤ x.off ∨ x.off + x.s ≤ y := by
  obtain ⟨c, hc, hu, rfl⟩ := freesB_mem.1 hy
  by_cases e : c.off = x.off
  · have := h.one hc hx e
    subst this
    exact .inl ⟨rfl, hu⟩
  · have h1 := h.sep hc hx e
    have h2 := (h.is c hc).size
    omega
theorem Told.used_far {o e : Nat} (h : Told f E o bs e) {x : Blk} (hx : x ∈ bs) {y : Nat} (hy : y ∈ usedB bs) : (y = x.off ∧ x.u = true) ∨ y + 48 ≤ x.off ∨ x.off + x.s ≤ y := by
  obtain ⟨c, hc, hu, rfl⟩ := usedB_mem.1 hy
  by_cases e : c.off = x.off
  · have := h.one hc hx e
    subst this
    exact .inl ⟨rfl, hu⟩
  · have h1 := h.sep hc hx e
    have h2 := (h.is c hc).size
    omega
theorem HeapF.swap (h : HeapF f E (A ++ (X ++ C))) (h1 : Told f E 3776 A lo) (h2 : Told f E hi C E) (hs : Stay f g lo hi (freesB A ++ freesB C)) (hY : Told g E lo Y hi) (hlh : lo ≤ hi) (hH : Hung g (freesB (A ++ (Y ++ C)))) : HeapF g E (A ++ (Y ++ C)) := by
  have hlo := h1.le
  have hF : ∀ y ∈ freesB A ++ freesB C, y ∈ freesB (A ++ (X ++ C)) := fun y hy => by
    rw [freesB_append, freesB_append]
    simp only [List.mem_append] at hy ⊢
    rcases hy with hy | hy
    · exact .inl hy
    · exact .inr (.inr hy)
  have h48 : ∀ y ∈ freesB A ++ freesB C, 48 ≤ y := fun y hy => by
    have := h.freeL.on y (hF y hy)
    omega
  refine ⟨hs.headOk (by omega) h48 h.head, (hs.top (by omega) h48).trans h.top, h.low, ?_, hH⟩
  refine told_append.2 ⟨lo, h1.stay (Nat.le_refl _) hs (fun x hx => .inl (h1.within x hx).2) (fun x hx y hy => h.told.free_far (by simp [hx]) (hF y hy)), told_append.2 ⟨hi, hY, h2.stay (by omega) hs (fun x hx => .inr (h2.within x hx).1) (fun x hx y hy => h.told.free_far (by simp [hx]) (hF y hy))⟩⟩
theorem Ledg.stay {U : List Nat} {F : List Nat} (h : Ledg U f L) (hs : Stay f g lo hi F) (hlo : 3776 ≤ lo) (hF : ∀ y ∈ F, 3776 ≤ y) (hU : ∀ x ∈ U, 3776 ≤ x ∧ (x + 48 ≤ lo ∨ hi ≤ x) ∧ ∀ y ∈ F, y + 48 ≤ x ∨ x + 48 ≤ y) : Ledg U g L := by
  refine h.congr (fun c hc => ?_) (fun x hx => ?_)
  · have := slotH_lt hc
    unfold slotH at *
    exact hs _ (by omega) (by omega) fun y hy => by have := hF y hy; omega
  · obtain ⟨h1, h2, h3⟩ := hU x hx
    exact ⟨hs _ (by omega) (by omega) fun y hy => by have := h3 y hy; omega, hs _ (by omega) (by omega) fun y hy => by have := h3 y hy; omega⟩
def LStay (f g : Nat → Nat) (U : List Nat) : Prop := ∀ x, (∀ c, c < 8 → x ≠ slotH c) → (∀ q ∈ U, x ≠ q + 16 ∧ x ≠ q + 24) → g x = f x
theorem HeapF.relist (h : HeapF f E bs) (hs : LStay f g (usedB bs)) : HeapF g E bs := by
  have hU := h.grid
  have h48 : ∀ x, x < 64 → g x = f x := fun x hx => hs x (fun c hc => by unfold slotH; omega) (fun q hq => by have := hU.lo q hq; omega)
  have hfree : ∀ x ∈ freesB bs, g x = f x ∧ g (x + 8) = f (x + 8) ∧ g (x + 16) = f (x + 16) := fun x hx => by
    have h1 := h.freeL.on x hx
    obtain ⟨b, hb, hu, rfl⟩ := freesB_mem.1 hx
    have hz := (h.told.is b hb).size
    have hq : ∀ q ∈ usedB bs, q + 48 ≤ b.off ∨ b.off + b.s ≤ q := fun q hq => by
      rcases h.told.used_far hb hq with h2 | h2
      · rw [hu] at h2; exact absurd h2.2 (by decide)
      · exact h2
    refine ⟨hs _ (fun c hc => ?_) fun q hq' => ?_, hs _ (fun c hc => ?_) fun q hq' => ?_, hs _ (fun c hc => ?_) fun q hq' => ?_⟩
    · have := slotH_lt hc; omega
    · have := hq q hq'; omega
    · have := slotH_lt hc; omega
    · have := hq q hq'; omega
    · have := slotH_lt hc; omega
    · have := hq q hq'; omega
  refine ⟨h.head.congr fun q hq _ => h48 q (by omega), (h48 16 (by decide)).trans h.top, h.low, h.told.congr fun x hx => ?_, h.hung.congr (h48 32 (by decide)) hfree⟩
  have hb := h.told.is x hx
  have hz := hb.size
  have hl := hb.lo
  have hq : ∀ q ∈ usedB bs, q = x.off ∨ q + 48 ≤ x.off ∨ x.off + x.s ≤ q := fun q hq => by
    rcases h.told.used_far hx hq with h2 | h2
    · exact .inl h2.1
    · exact .inr h2
  refine ⟨hs _ (fun c hc => ?_) fun q hq' => ?_, hs _ (fun c hc => ?_) fun q hq' => ?_, fun _ => hs _ (fun c hc => ?_) fun q hq' => ?_⟩
  · have := slotH_lt hc; omega
  · have := hq q hq'; omega
  · have := slotH_lt hc; omega
  · have := hq q hq'; omega
  · have := slotH_lt hc; omega
  · have := hq q hq'; omega
theorem LStay.link {U : List Nat} {c off : Nat} (h : Ledg U f L) (hU : Grid U) (hc : c < 8) (ho : off ∈ U) : LStay f (linkF f c off) U := fun x h1 h2 => by
  unfold linkF
  have hx := h2 off ho
  rw [if_neg (h1 c hc), if_neg (fun e => (h2 _ (h.head_on hU hc e.1).1).2 e.2), if_neg hx.2, if_neg hx.1]
end
end Go.Proofs.YtcngmkfpbcemjaaGreat
