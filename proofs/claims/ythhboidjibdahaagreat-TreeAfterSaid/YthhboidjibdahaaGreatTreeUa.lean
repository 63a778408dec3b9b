/-
  The plain answer's list of blocks by their keys: each laid among those ahead.
  Conditions: as said.
-/
import Derived.Test.YthhboidjibdahaaGreatTreeAx
import Derived.Test.YthhboidjibdahaaGreatTreeTa
import Derived.Test.YthhboidjibdahaaGreatTreeK
namespace Go.Proofs.YthhboidjibdahaaGreat
open Go.RowKit
set_option linter.unusedVariables false
set_option linter.unusedSimpArgs false

/-- the place found so far: those from p on have been looked at -/
structure SoI (z : Nat → Nat) (x : Nat) (S : List Nat) (p a : Nat) : Prop where
  ge : p ≤ a
  le : a ≤ S.length
  at_ : a < S.length → blkLt z x (S.getD a 0)
  not : ∀ j, p ≤ j → j < a → ¬ blkLt z x (S.getD j 0)
section
variable {z : Nat → Nat} {x q a : Nat} {S : List Nat}
theorem SoI.start (z : Nat → Nat) (x : Nat) (S : List Nat) : SoI z x S S.length S.length := ⟨Nat.le_refl _, Nat.le_refl _, fun h => absurd h (Nat.lt_irrefl _), fun j h1 h2 => by omega⟩
theorem SoI.no (h : SoI z x S (q + 1) a) (hn : ¬ blkLt z x (S.getD q 0)) : SoI z x S q a := ⟨by have := h.ge; omega, h.le, h.at_, fun j h1 h2 => by
  rcases Nat.lt_or_ge q j with h3 | h3
  · exact h.not j (by omega) h2
  · obtain rfl : j = q := by omega
    exact hn⟩
theorem SoI.yes (h : SoI z x S (q + 1) a) (hq : blkLt z x (S.getD q 0)) : SoI z x S q q := ⟨Nat.le_refl _, by have := h.ge; have := h.le; omega, fun _ => hq, fun j h1 h2 => by omega⟩
/-- in the end it is the place -/
theorem SoI.ins (h : SoI z x S 0 a) : S.take a ++ x :: S.drop a = insK z x S := insK_at h.le (fun j h1 => h.not j (Nat.zero_le _) h1) h.at_
end
/-- what is behind a place lies there -/
theorem drop_from {w : World} {b off m q c : Nat} {K : List Nat} (h : WordsAt w (some ⟨b, off, none⟩) K) (hm : K.length = m) (hq : q ≤ m) (hc : m ≤ c) : WordsAt w (if c = q then some ⟨b, off, none⟩ else some ⟨b, off + q, none⟩) (K.drop q) := by
  split
  · exact ⟨fun hn => by simp at hn; omega⟩
  · exact h.drop q
theorem take_next {L : List Nat} {k x : Nat} (hk : k < L.length) (hx : L.getD k 0 = x) : L.take (k + 1) = L.take k ++ [x] := by
  rw [List.take_add_one, ← hx, List.getD_eq_getElem?_getD, List.getElem?_eq_getElem hk]
  rfl
theorem srt_next {z : Nat → Nat} {L : List Nat} {k x : Nat} (hk : k < L.length) (hx : L.getD k 0 = x) : srtK z (L.take (k + 1)) = insK z x (srtK z (L.take k)) := by
  rw [take_next hk hx, srtK_snoc]
theorem WordsAt.keep2 {w w' : World} {b off n i y : Nat} {l : List Nat} (h : WordsAt w (some ⟨b, off, none⟩) l) (hg : w.grownBy w' none) (hn : l.length = n) (hi : i < n) (hy : l.getD i 0 = y) : w'.cell? ⟨b, off + i, none⟩ = some (.int .u64 (y : Nat)) := by
  obtain ⟨b', off', e, _, h2⟩ := (h.later hg).cells (by omega)
  cases e
  rw [h2 i (by omega), hy]
section
variable {w : World} {base : Nat} {wv pv : Value} {ws : List Nat} {l : List (Nat × Nat)} {la : Option Addr} {c : Nat} {L : List Nat}
set_option maxHeartbeats 4000000 in
set_option maxRecDepth 100000 in
theorem rsorted_any (h : RTx w base wv pv ws l) (ok : RefOk ws l) (hm : WordsAt w la L) (hlen : L.length ≤ 100000) (hlt : ∀ x, x ∈ L → x < 18446744073709551616) :
    Calls Tryz.prog 13 #[.agg #[wv, pv], .slice la L.length c] w fun e w' => ∃ v, e = .returned v ∧ OwnW w' w.heap.size v (srtK (fun x => tS (txSee ws l x)) L) ∧ w.grownBy w' none := by
  obtain ⟨wa, wn, wc, rfl⟩ := wv_form h.words
  obtain ⟨pa, pn, pc, rfl⟩ := pv_form h.puts
  have hg0 : w.grownBy (w.alloc (.cells #[.slice wa wn wc, .slice pa pn pc] 29)) none := World.grownBy_alloc _ _ _
  have hb0 := heap_alloc_new' w (.cells #[.slice wa wn wc, .slice pa pn pc] 29)
  have hsz := fun (w1 : World) (hg : w.grownBy w1 none) (x : Nat) (hx : x < 18446744073709551616) => rsize_any (h.later hg) ok.words ok.puts ok.lt x hx
  have hle := fun (w1 : World) (hg : w.grownBy w1 none) (x s o : Nat) (hx : x < 18446744073709551616) => rless_any (h.later hg) ok.words ok.puts ok.lt x s o hx
  obtain ⟨z, hz⟩ : ∃ z, (fun x => tS (txSee ws l x)) = z := ⟨_, rfl⟩
  rw [hz] at hle ⊢
  have hsz' : ∀ (w1 : World) (hg : w.grownBy w1 none) (x : Nat) (hx : x < 18446744073709551616), Calls Tryz.prog 33 #[.agg #[.slice wa wn wc, .slice pa pn pc], .int .u64 x] w1 fun e w' => e = .returned (.int .u64 (z x : Nat)) ∧ w1.grownBy w' none := fun w1 hg x hx => by
    have := hsz w1 hg x hx
    rw [← hz]
    exact this
  obtain ⟨n, hn⟩ : ∃ n, L.length = n := ⟨_, rfl⟩
  have HN := Lib.hid hn
  have HM := Lib.hid (hm.later hg0)
  have HB := Lib.hid hb0
  rw [hn] at hlen ⊢
  clear hsz hz h hn hm hb0
  go_enter Tryz.func13, Tryz.ntmps13
  go_wp2
  go_loopw [5, 6] (fun v i wo => ∃ k, k ≤ n ∧ i = .int .i64 (k : Nat) ∧ OwnW wo w.heap.size v (srtK z (L.take k)) ∧ (k = 0 → v = .slice none 0 0) ∧ (w.alloc (.cells #[.slice wa wn wc, .slice pa pn pc] 29)).grownBy wo none) (fun _ i _ => n - (intOf i).toNat)
  case atStart => exact ⟨0, Nat.zero_le _, rfl, World.ownsRow_nil _ _ _ _, fun _ => rfl, grown_refl _ _⟩
  case round =>
    obtain ⟨k, hk, rfl, hown, hnil, hgk⟩ := hrel
    obtain ⟨wo, ewo⟩ : ∃ wo, wo = wr := ⟨_, rfl⟩
    subst ewo
    have hslen : (srtK z (L.take k)).length = k := by rw [srtK_length, List.length_take, HN.out]; omega
    obtain ⟨oa, oc, hv⟩ := hown.slice
    rw [hslen] at hv
    subst hv
    rcases Nat.lt_or_ge k n with h1 | h1
    · obtain ⟨bl, off, rfl, hbl, _⟩ := HM.out.cells (by rw [HN.out]; omega)
      obtain ⟨x, hx⟩ : ∃ x, L.getD k 0 = x := ⟨_, rfl⟩
      have hxL : x ∈ L := by
        rw [← hx, List.getD_eq_getElem?_getD, List.getElem?_eq_getElem (by rw [HN.out]; exact h1)]
        exact List.getElem_mem _
      have hx64 := hlt x hxL
      have HNX := Lib.hid (srt_next (z := z) (by rw [HN.out]; exact h1) hx)
      have hk1 : (k : Int) < (n : Int) := by omega
      obtain ⟨S, hS⟩ : ∃ S, srtK z (L.take k) = S := ⟨_, rfl⟩
      rw [hS] at hown hslen HNX
      have HSL := Lib.hid hslen
      have HO := Lib.hid hown
      have HXC := Lib.hid hx
      have hS64 : ∀ y, y ∈ S → y < 18446744073709551616 := fun y hy => by
        rw [← hS] at hy
        exact hlt y (List.mem_of_mem_take (srtK_mem.1 hy))
      have HS64 := Lib.hid hS64
      have HNL := Lib.hid hnil
      clear hx hS hslen hown hxL hS64 hnil
      go_wp2
      go_loopw [7, 8] (fun v i wq => ∃ p a, p ≤ k ∧ i = .int .i64 ((p : Int) - 1) ∧ v = .int .i64 (a : Nat) ∧ SoI z x S p a ∧ wo.grownBy wq none) (fun _ i _ => (intOf i + 1).toNat)
      case atStart => exact ⟨k, k, Nat.le_refl _, by go_num, rfl, by have := SoI.start z x S; rw [HSL.out] at this; exact this, grown_refl _ _⟩
      case round =>
        obtain ⟨p, a, hp, rfl, rfl, hI, hgq⟩ := hrel
        rcases p with _ | q
        · have e0 : (((0 : Nat) : Int) - 1) = -1 := rfl
          rw [e0]
          have hal := hI.le
          rw [HSL.out] at hal
          have hszw := Nat.le_trans (World.grownBy_alloc w (.cells #[.slice wa wn wc, .slice pa pn pc] 29) none).size (grown_trans hgk hgq).size
          have HI := Lib.hid hI
          have hsrt := hI.ins
          have HGQ := Lib.hid hgq
          have HGK := Lib.hid hgk
          have htl : (S.take a).length = a := by rw [List.length_take, HSL.out]; omega
          have HTL := Lib.hid htl
          have HINS := Lib.hid (HNX.out.trans hsrt.symm)
          clear hI hsrt htl
          rcases Nat.eq_zero_or_pos k with h0 | h0
          · subst h0
            obtain rfl : a = 0 := by omega
            have hv0 := HNL.out rfl
            simp only [Value.slice.injEq, true_and] at hv0
            obtain ⟨rfl, rfl⟩ := hv0
            have hw0 : ∀ wq : World, WordsAt wq none [] := fun wq => ⟨fun hn => by simp at hn⟩
            have ewa : IntKind.i64.wrap (0 : Int) = (0 : Nat) := rfl
            have HW0 := Lib.hid hw0
            clear hgq hw0
            go_wp2_with (first | (at_builtin; (refine wpList_append_num rfl _ _ rfl wr.heap.size (.slice za zn zc) ([] ++ []) rfl hown6 x rfl (by simp) (Nat.le_trans (by simp) hg6.size) ?_); intro v7 w7 hown7 hg7 hl7; obtain ⟨ya, yn, yc, hx7⟩ := wv_form hown7; subst hx7; have G7 := grown_step G6 hg7 (fun i hi => .inl (World.ownsRow.lt hown6 i hi).1)) | (at_builtin; (refine wpList_append_words (base := wr.heap.size) (xs := []) (ys := []) (own_empty wr _ (Nat.le_refl _)) (HW0.out _) (by simp) (by simp) rfl _ _ rfl rfl rfl ?_); intro v6 w6 hown6 hg6; obtain ⟨za, zn, zc, hx6⟩ := wv_form hown6; subst hx6; have G6 : wr.grownBy w6 none := grown_new (grown_trans (World.grownBy_alloc _ _ _) hg6) (Nat.le_refl _); have lx6 := HM.out.keep2 (grown_trans HGK.out (grown_trans HGQ.out G6)) HN.out h1 HXC.out; simp only [Nat.add_zero] at lx6) | (at_builtin; go_must (refine wpList_append_words (base := wr.heap.size) (xs := [] ++ [] ++ [x]) (ys := []) hown7 (HW0.out _) (by simp) (Nat.le_trans (by simp) G7.size) rfl _ _ rfl rfl rfl ?_); intro v8 w8 hown8 hg8))
            have G8 := grown_step G7 hg8 (fun i hi => .inl (World.ownsRow.lt hown7 i hi).1)
            have hS0 : S = [] := List.length_eq_zero_iff.1 HSL.out
            have hfin : OwnW w8 w.heap.size v8 (srtK z (L.take (0 + 1))) := by
              rw [HINS.out, hS0]
              exact hown8.mono (by omega)
            have HFIN := Lib.hid hfin
            have hgf := grown_trans HGK.out (grown_trans HGQ.out G8)
            clear hfin hown8 hown7 hown6 lx6
            go_wp2
            go_roundw
            case rel => exact ⟨0 + 1, by omega, by go_num, HFIN.out, fun e => by omega, hgf⟩
            case measure => simp [intOf]; omega
          · obtain ⟨b3, off3, rfl, hb3, _⟩ := (lie_at HO.out).cells (by rw [HSL.out]; omega)
            have hcap : k ≤ oc := by
              rcases HO.out.2 with h9 | ⟨_, _, _, h9, _, _, h10, _⟩
              · have := h9.2; rw [HSL.out] at this; omega
              · injection h9 with _ _ h9; rw [HSL.out] at h10; omega
            have HC := Lib.hid hcap
            have hak : (a : Int) ≤ (k : Int) := by omega
            have hac : (a : Int) ≤ (oc : Int) := by omega
            have ewa : IntKind.i64.wrap (a : Int) = (a : Nat) := by rw [IntKind.wrap_i64]; omega
            have hk9 : k ≤ 100000 := by omega
            clear hgq
            go_wp2_with (first | (at_builtin; (refine wpList_append_num rfl _ _ rfl wr.heap.size (.slice za zn zc) ([] ++ S.take a) rfl hown6 x rfl (by simp [HTL.out]; omega) (Nat.le_trans (by simp) hg6.size) ?_); intro v7 w7 hown7 hg7 hl7; obtain ⟨ya, yn, yc, hx7⟩ := wv_form hown7; subst hx7; have G7 := grown_step G6 hg7 (fun i hi => .inl (World.ownsRow.lt hown6 i hi).1)) | (at_builtin; (refine wpList_append_words (base := wr.heap.size) (xs := []) (ys := S.take a) (own_empty wr _ (Nat.le_refl _)) ((((lie_at HO.out).later HGQ.out).take a).later (World.grownBy_alloc _ _ _)) (by simp [HTL.out]; omega) (by simp) rfl _ _ rfl rfl (by rw [HTL.out]; rfl) ?_); intro v6 w6 hown6 hg6; obtain ⟨za, zn, zc, hx6⟩ := wv_form hown6; subst hx6; have G6 : wr.grownBy w6 none := grown_new (grown_trans (World.grownBy_alloc _ _ _) hg6) (Nat.le_refl _); have lx6 := HM.out.keep2 (grown_trans HGK.out (grown_trans HGQ.out G6)) HN.out h1 HXC.out) | (at_builtin; go_must (refine wpList_append_words (base := wr.heap.size) (xs := [] ++ S.take a ++ [x]) (ys := S.drop a) hown7 (drop_from (((lie_at HO.out).later HGQ.out).later G7) HSL.out hal HC.out) (by simp [HTL.out, HSL.out]; omega) (Nat.le_trans (by simp) G7.size) rfl _ _ rfl rfl (by rw [List.length_drop, HSL.out]; rfl) ?_); intro v8 w8 hown8 hg8))
            have G8 := grown_step G7 hg8 (fun i hi => .inl (World.ownsRow.lt hown7 i hi).1)
            have hfin : OwnW w8 w.heap.size v8 (srtK z (L.take (k + 1))) := by
              rw [HINS.out]
              have e9 : [] ++ S.take a ++ [x] ++ S.drop a = S.take a ++ x :: S.drop a := by simp
              rw [← e9]
              exact hown8.mono (by omega)
            have HFIN := Lib.hid hfin
            have hgf := grown_trans HGK.out (grown_trans HGQ.out G8)
            clear hfin hown8 hown7 hown6 lx6
            go_wp2
            go_roundw
            case rel => exact ⟨k + 1, by omega, by go_num, HFIN.out, fun e => by omega, hgf⟩
            case measure => simp [intOf]; omega
        · have e0 : (((q + 1 : Nat) : Int) - 1) = (q : Nat) := by omega
          rw [e0]
          obtain ⟨b3, off3, rfl, hb3, _⟩ := (lie_at HO.out).cells (by rw [HSL.out]; omega)
          obtain ⟨y, hy⟩ : ∃ y, S.getD q 0 = y := ⟨_, rfl⟩
          have hyS : y ∈ S := by
            rw [← hy, List.getD_eq_getElem?_getD, List.getElem?_eq_getElem (by rw [HSL.out]; omega)]
            exact List.getElem_mem _
          have hy64 := HS64.out y hyS
          have hqk : (q : Int) < (k : Int) := by omega
          have hcell : ∀ {wq : World}, wr.grownBy wq none → (wq.cell? ⟨w.heap.size, 0, none⟩ = some (.slice wa wn wc) ∧ wq.cell? ⟨w.heap.size, 1, none⟩ = some (.slice pa pn pc)) ∧ wq.cell? ⟨bl, off + k, none⟩ = some (.int .u64 (x : Nat)) ∧ wq.cell? ⟨b3, off3 + q, none⟩ = some (.int .u64 (y : Nat)) := fun {wq} hg => by
            have g1 := grown_trans hgk (grown_trans hgq hg)
            exact ⟨two_cells (two_held HB.out g1), HM.out.keep2 g1 HN.out h1 HXC.out, (lie_at HO.out).keep2 (grown_trans hgq hg) HSL.out (by omega) hy⟩
          have HG : wr.grownBy wr.drew none := grown_drew (grown_refl _ _)
          obtain ⟨⟨t0, t1⟩, lx, ly⟩ := hcell HG
          have G0 := grown_trans hg0 (grown_trans hgk hgq)
          have HI := Lib.hid hI
          have HY := Lib.hid hy
          have HW := Lib.hid (fun (wq : World) (hg : wr.grownBy wq none) => hcell hg)
          clear hy hI hyS hcell
          by_cases hb : blkLt z x y
          · have hle1 : ∀ (w1 : World) (hg : w.grownBy w1 none), Calls Tryz.prog 32 #[.agg #[.slice wa wn wc, .slice pa pn pc], .int .u64 x, .int .u64 (z y : Nat), .int .u64 y] w1 fun e w' => e = .returned (.bool true) ∧ w1.grownBy w' none := fun w1 hg => by
              have := hle w1 hg x (z y) y hx64
              rw [decide_eq_true (show keyLt z x (z y) y from hb)] at this
              exact this
            go_wp2
            go_region_held3 (fun wq => (wq.cell? ⟨w.heap.size, 0, none⟩ = some (.slice wa wn wc) ∧ wq.cell? ⟨w.heap.size, 1, none⟩ = some (.slice pa pn pc)) ∧ wq.cell? ⟨bl, off + k, none⟩ = some (.int .u64 (x : Nat)) ∧ wq.cell? ⟨b3, off3 + q, none⟩ = some (.int .u64 (y : Nat))) (exact HW.out _ HG) (first | (go_at_call 33; ((with_reducible refine (hsz' _ (grown_trans G0 HG) y hy64).mono ?_); rintro e w9 ⟨rfl, hg9⟩; replace HG := grown_trans HG hg9; obtain ⟨⟨t0, t1⟩, lx, ly⟩ := HW.out _ HG)) | (go_at_call 32; ((with_reducible refine (hle1 _ (grown_trans G0 HG)).mono ?_); rintro e w9 ⟨rfl, hg9⟩; replace HG := grown_trans HG hg9; obtain ⟨⟨t0, t1⟩, lx, ly⟩ := HW.out _ HG)))
            have hend := grown_trans hgq HG
            clear t0 t1 lx ly
            go_wp2
            go_roundw
            case rel => exact ⟨q, q, by omega, by go_num, rfl, HI.out.yes (by rw [HY.out]; exact hb), hend⟩
            case measure => simp [intOf]
          · have hle1 : ∀ (w1 : World) (hg : w.grownBy w1 none), Calls Tryz.prog 32 #[.agg #[.slice wa wn wc, .slice pa pn pc], .int .u64 x, .int .u64 (z y : Nat), .int .u64 y] w1 fun e w' => e = .returned (.bool false) ∧ w1.grownBy w' none := fun w1 hg => by
              have := hle w1 hg x (z y) y hx64
              rw [decide_eq_false (show ¬ keyLt z x (z y) y from hb)] at this
              exact this
            go_wp2
            go_region_held3 (fun wq => (wq.cell? ⟨w.heap.size, 0, none⟩ = some (.slice wa wn wc) ∧ wq.cell? ⟨w.heap.size, 1, none⟩ = some (.slice pa pn pc)) ∧ wq.cell? ⟨bl, off + k, none⟩ = some (.int .u64 (x : Nat)) ∧ wq.cell? ⟨b3, off3 + q, none⟩ = some (.int .u64 (y : Nat))) (exact HW.out _ HG) (first | (go_at_call 33; ((with_reducible refine (hsz' _ (grown_trans G0 HG) y hy64).mono ?_); rintro e w9 ⟨rfl, hg9⟩; replace HG := grown_trans HG hg9; obtain ⟨⟨t0, t1⟩, lx, ly⟩ := HW.out _ HG)) | (go_at_call 32; ((with_reducible refine (hle1 _ (grown_trans G0 HG)).mono ?_); rintro e w9 ⟨rfl, hg9⟩; replace HG := grown_trans HG hg9; obtain ⟨⟨t0, t1⟩, lx, ly⟩ := HW.out _ HG)))
            have hend := grown_trans hgq HG
            clear t0 t1 lx ly
            go_wp2
            go_roundw
            case rel => exact ⟨q, a, by omega, by go_num, rfl, HI.out.no (by rw [HY.out]; exact hb), hend⟩
            case measure => simp [intOf]
    · obtain rfl : k = n := by omega
      rw [List.take_of_length_le (Nat.le_of_eq HN.out)] at hown
      have HO := Lib.hid hown
      clear hown
      go_wp2
      go_ret
      exact ⟨_, rfl, HO.out, grown_trans hg0 hgk⟩
end
end Go.Proofs.YthhboidjibdahaaGreat
