/-
  Texts of one layer, one behind the other: memory, contracts of the functions, and what follows of them.
  Conditions: as each theorem says.
-/
import Derived.Test.YtcngmkfpbcemjaaGreatLCae
import Derived.Test.YtcngmkfpbcemjaaGreatLCak
import Derived.Test.YtcngmkfpbcemjaaGreatLClb
import Derived.BigQuiet
set_option linter.unusedVariables false
set_option linter.unusedSimpArgs false
namespace Go.Proofs.YtcngmkfpbcemjaaGreat
open Go.RowKit
set_option maxRecDepth 100000
section
variable {w0 w w' : World} {T M : Nat} {R : Option Nat} {B D : Nat} {ws : List Nat} {l l' : List (Nat × Nat)} {off E : Nat} {bs A C : List Blk} {b : Blk} {L : Nat → List Nat}
theorem seeH_join (hws : 8 * ws.length = 4800) {c p n : Nat} (hc : c < 8) (hp : p ≠ 0 → p % 8 = 0 ∧ p + 24 < 4800) (hn : n ≠ 0 → n % 8 = 0 ∧ n + 24 < 4800) (x : Nat) :
    txSee ws (joinL ws l c p n) x = if n ≠ 0 ∧ x = n + 24 then p else if p = 0 ∧ x = slotH c then n else if p ≠ 0 ∧ x = p + 16 then n else txSee ws l x := by
  have hs := slotH_lt hc
  have hsl : slotH c % 8 = 0 := by unfold slotH; omega
  unfold joinL
  by_cases hn0 : n = 0
  · have hA : ¬ (n ≠ 0 ∧ x = n + 24) := fun h => h.1 hn0
    rw [if_pos hn0, if_neg hA]
    by_cases hp0 : p = 0
    · have hB : ¬ (p ≠ 0 ∧ x = p + 16) := fun h => h.1 hp0
      rw [if_pos hp0, see_off hws hsl (by omega), if_neg hB]
      by_cases e : x = slotH c
      · rw [if_pos e, if_pos (show p = 0 ∧ x = slotH c from ⟨hp0, e⟩)]
      · rw [if_neg e, if_neg (show ¬ (p = 0 ∧ x = slotH c) from fun h => e h.2)]
    · obtain ⟨h3, h4⟩ := hp hp0
      have hB : ¬ (p = 0 ∧ x = slotH c) := fun h => hp0 h.1
      rw [if_neg hp0, see_off hws (by omega) (by omega), if_neg hB]
      by_cases e : x = p + 16
      · rw [if_pos e, if_pos (show p ≠ 0 ∧ x = p + 16 from ⟨hp0, e⟩)]
      · rw [if_neg e, if_neg (show ¬ (p ≠ 0 ∧ x = p + 16) from fun h => e h.2)]
  · obtain ⟨h1, h2⟩ := hn hn0
    rw [if_neg hn0, see_off hws (by omega) (by omega)]
    by_cases e1 : x = n + 24
    · rw [if_pos e1, if_pos (show n ≠ 0 ∧ x = n + 24 from ⟨hn0, e1⟩)]
    · rw [if_neg e1, if_neg (show ¬ (n ≠ 0 ∧ x = n + 24) from fun h => e1 h.2)]
      by_cases hp0 : p = 0
      · have hB : ¬ (p ≠ 0 ∧ x = p + 16) := fun h => h.1 hp0
        rw [if_pos hp0, see_off hws hsl (by omega), if_neg hB]
        by_cases e : x = slotH c
        · rw [if_pos e, if_pos (show p = 0 ∧ x = slotH c from ⟨hp0, e⟩)]
        · rw [if_neg e, if_neg (show ¬ (p = 0 ∧ x = slotH c) from fun h => e h.2)]
      · obtain ⟨h3, h4⟩ := hp hp0
        have hB : ¬ (p = 0 ∧ x = slotH c) := fun h => hp0 h.1
        rw [if_neg hp0, see_off hws (by omega) (by omega), if_neg hB]
        by_cases e : x = p + 16
        · rw [if_pos e, if_pos (show p ≠ 0 ∧ x = p + 16 from ⟨hp0, e⟩)]
        · rw [if_neg e, if_neg (show ¬ (p ≠ 0 ∧ x = p + 16) from fun h => e h.2)]
theorem getH_head {c : Nat} (hc : c < 8) : cGet ws l c 8 = txSee ws l (slotH c) := by
  have hs : slotP c 8 := ⟨⟨by omega, by omega⟩, by decide, by decide⟩
  unfold cGet
  rw [if_pos hs]
  congr 1
  unfold slotN slotH
  simp only [Int.toNat_natCast]
  omega
theorem hlink {U : List Nat} {c : Nat} (h : Txs w0 w T M R B D ws l) (hws : 8 * ws.length = 4800) (h2 : Ledg U (txSee ws l) L) (hU : Grid U) (hc : c < 8) (ho : off ∈ U) :
    Calls Tryz.prog 48 #[.pointer (some ⟨T, 0, none⟩), .int .i64 c, .int .u64 off] w fun e w' => e = .returned (.tuple #[]) ∧ ∃ R' l', Txs w0 w' T M R' B D ws l' ∧ (∀ x, txSee ws l' x = linkF (txSee ws l) c off x) ∧ Keep w R w' R' := by
  have o1 := hU.lo off ho
  have hh : txSee ws l (slotH c) ≠ 0 → txSee ws l (slotH c) % 8 = 0 ∧ txSee ws l (slotH c) + 24 < 4800 := fun e => by
    have := hU.lo _ (h2.head_on hU hc e).1
    omega
  refine (link_any h hc (by omega) (by rw [getH_head hc]; omega)).mono ?_
  rintro e w' ⟨rfl, R', X, K⟩
  rw [getH_head hc] at X
  refine ⟨rfl, R', _, X, fun x => ?_, K⟩
  have hs := slotH_lt hc
  rw [seeH_join hws hc (fun _ => by omega) hh, seeH_join hws hc (fun e => absurd rfl e) (fun _ => by omega)]
  unfold linkF
  obtain ⟨q, eq⟩ : ∃ q, txSee ws l (slotH c) = q := ⟨_, rfl⟩
  have hq : q ≠ 0 → 3776 ≤ q ∧ (q = off ∨ off + 48 ≤ q ∨ q + 48 ≤ off) := fun e => by
    have hm := (h2.head_on hU hc (by rw [eq]; exact e)).1
    rw [eq] at hm
    refine ⟨(hU.lo q hm).1, ?_⟩
    by_cases e2 : q = off
    · exact .inl e2
    · rcases hU.far q hm off ho e2 with h | h
      · exact .inr (.inr h)
      · exact .inr (.inl h)
  rw [eq]
  obtain ⟨v, ev⟩ : ∃ v, txSee ws l x = v := ⟨_, rfl⟩
  rw [ev]
  clear hh h2 h ev eq X K
  repeat' split
  all_goals first | rfl | omega
end
def padL (P O : Nat) : List Nat := if P = 0 then [] else [O]
def restL (S P N O : Nat) : List Nat := if S - P - N < 48 then [] else [O + P + N]
structure CutB (f0 : Nat → Nat) (E O S P N n owner : Nat) (F : List Nat) : Prop where
  bb : O % 16 = 0 ∧ S % 16 = 0 ∧ 3776 ≤ O ∧ O + S ≤ E ∧ E ≤ 4800
  pp : P % 16 = 0 ∧ (P = 0 ∨ 48 ≤ P)
  nn : N % 16 = 0 ∧ 48 ≤ N
  ln : n + 40 ≤ N
  fit : P + N ≤ S
  own : owner ≤ 8
  out : ∀ y ∈ F, 3776 ≤ y ∧ (y + 48 ≤ O ∨ O + S ≤ y)
  top : f0 16 = E
structure Cut1 (f0 f : Nat → Nat) (O S : Nat) (F ls : List Nat) : Prop where
  stay : Stay f0 f O (O + S) F
  hung : Hung f ls
def PadW (f : Nat → Nat) (O P : Nat) : Prop := P ≠ 0 → f O = packN P false 0 ∧ f (O + P - 8) = packN P false 0
def RestW (f : Nat → Nat) (O S P N : Nat) : Prop := ¬ S - P - N < 48 → f (O + P + N) = packN (S - P - N) false 0 ∧ f (O + S - 8) = packN (S - P - N) false 0
section
variable {w0 w w' : World} {T M : Nat} {R : Option Nat} {B D : Nat} {ws : List Nat} {l l' : List (Nat × Nat)} {f0 f g : Nat → Nat} {E O S P N n owner : Nat} {F ls : List Nat}
theorem Cut1.top (k : Cut1 f0 f O S F ls) (c : CutB f0 E O S P N n owner F) : f 16 = E := by
  have := c.bb
  exact (k.stay.top (by omega) fun y hy => by have := c.out y hy; omega).trans c.top
theorem padL_mem {y : Nat} (h : y ∈ padL P O) : P ≠ 0 ∧ y = O := by
  unfold padL at h
  by_cases e : P = 0
  · rw [if_pos e] at h; cases h
  · rw [if_neg e] at h; exact ⟨e, List.mem_singleton.1 h⟩
theorem restL_mem {y : Nat} (h : y ∈ restL S P N O) : ¬ S - P - N < 48 ∧ y = O + P + N := by
  unfold restL at h
  by_cases e : S - P - N < 48
  · rw [if_pos e] at h; cases h
  · rw [if_neg e] at h; exact ⟨e, List.mem_singleton.1 h⟩
theorem st_del (h : Txs w0 w T M R B D ws l) (hws : 8 * ws.length = 4800) (c : CutB (txSee ws l) E O S P N n owner F) {all : List Nat} (hH : Hung (txSee ws l) all) (hO : O ∈ all) (hS : 48 ≤ S) (hall : (all.filter fun a => decide (a ≠ O)) = F) :
    Calls Tryz.prog 45 #[.pointer (some ⟨T, 0, none⟩), .int .u64 O] w fun e w' => e = .returned (.bool true) ∧ ∃ R' l', Txs w0 w' T M R' B D ws l' ∧ Cut1 (txSee ws l) (txSee ws l') O S F F ∧ Keep w R w' R' := by
  refine (hdelete h hws hH hO).mono ?_
  rintro e w' ⟨rfl, R', l', X, H, K, kp⟩
  rw [hall] at H
  refine ⟨rfl, R', l', X, ⟨(Stay.of_kept K).less fun y hy => ?_, H⟩, kp⟩
  by_cases e : y = O
  · exact .inr (by omega)
  · exact .inl (by rw [← hall]; exact List.mem_filter.2 ⟨hy, by simpa using e⟩)
theorem st_nopad (k : Cut1 f0 f O S F F) (hp : P = 0) : Cut1 f0 f O S F (F ++ padL P O) ∧ PadW f O P := by
  unfold padL
  rw [if_pos hp, List.append_nil]
  exact ⟨k, fun h => absurd hp h⟩
theorem st_pad (h : Txs w0 w T M R B D ws l) (hws : 8 * ws.length = 4800) (c : CutB f0 E O S P N n owner F) (k : Cut1 f0 (txSee ws l) O S F F) (hp : P ≠ 0) :
    Calls Tryz.prog 46 #[.pointer (some ⟨T, 0, none⟩), .int .u64 O, .int .u64 P] w fun e w' => e = .returned (.tuple #[]) ∧ ∃ R' l', Txs w0 w' T M R' B D ws l' ∧ (Cut1 f0 (txSee ws l') O S F (F ++ padL P O) ∧ PadW (txSee ws l') O P) ∧ Keep w R w' R' := by
  have hb := c.bb
  have hP := c.pp
  have hfit := c.fit
  have hN := c.nn
  refine (hspare h hws k.hung (may_false hP.1 (by omega) (by omega)) (by rw [k.top c]; unfold inP; omega) (by rw [k.top c]; omega) fun y hy => by have := c.out y hy; omega).mono ?_
  rintro e w' ⟨rfl, R', l', X, H, St, W, kp⟩
  refine ⟨rfl, R', l', X, ⟨⟨k.stay.trans (St.grow (Nat.le_refl _) (by omega)), ?_⟩, fun _ => W⟩, kp⟩
  unfold padL
  rw [if_neg hp]
  exact H
theorem st_norest (k : Cut1 f0 f O S F (F ++ padL P O) ∧ PadW f O P) (hr : S - P - N < 48) : Cut1 f0 f O S F ((F ++ padL P O) ++ restL S P N O) ∧ PadW f O P ∧ RestW f O S P N := by
  unfold restL
  rw [if_pos hr, List.append_nil]
  exact ⟨k.1, k.2, fun h => absurd hr h⟩
theorem st_rest (h : Txs w0 w T M R B D ws l) (hws : 8 * ws.length = 4800) (c : CutB f0 E O S P N n owner F) (k : Cut1 f0 (txSee ws l) O S F (F ++ padL P O) ∧ PadW (txSee ws l) O P) (hr : ¬ S - P - N < 48) :
    Calls Tryz.prog 46 #[.pointer (some ⟨T, 0, none⟩), .int .u64 (O + P + N : Nat), .int .u64 (S - P - N : Nat)] w fun e w' => e = .returned (.tuple #[]) ∧ ∃ R' l', Txs w0 w' T M R' B D ws l' ∧ (Cut1 f0 (txSee ws l') O S F ((F ++ padL P O) ++ restL S P N O) ∧ PadW (txSee ws l') O P ∧ RestW (txSee ws l') O S P N) ∧ Keep w R w' R' := by
  have hb := c.bb
  have hP := c.pp
  have hfit := c.fit
  have hN := c.nn
  have hfar : ∀ y ∈ F ++ padL P O, y + 48 ≤ O + P + N ∨ O + S ≤ y := fun y hy => by
    rcases List.mem_append.1 hy with hy | hy
    · have := c.out y hy; omega
    · have := padL_mem hy; omega
  refine (hspare h hws k.1.hung (may_false (by omega) (by omega) (by omega)) (by rw [k.1.top c]; unfold inP; omega) (by rw [k.1.top c]; omega) fun y hy => by have := hfar y hy; omega).mono ?_
  rintro e w' ⟨rfl, R', l', X, H, St, W, kp⟩
  have hst2 : Stay (txSee ws l) (txSee ws l') O (O + S) F := (St.grow (show O ≤ O + P + N by omega) (show O + P + N + (S - P - N) ≤ O + S by omega)).less fun y hy => by
    rcases List.mem_append.1 hy with hy | hy
    · exact .inl hy
    · have := padL_mem hy; exact .inr (by omega)
  refine ⟨rfl, R', l', X, ⟨⟨k.1.stay.trans hst2, ?_⟩, fun hp => ?_, fun _ => ⟨W.1, ?_⟩⟩, kp⟩
  · unfold restL
    rw [if_neg hr]
    exact H
  · obtain ⟨p1, p2⟩ := k.2 hp
    have hx : ∀ x, x = O ∨ x = O + P - 8 → txSee ws l' x = txSee ws l x := fun x h1 => St x (.inl (by omega)) (by omega) fun y hy => by
      rcases List.mem_append.1 hy with hy | hy
      · have := c.out y hy; omega
      · have := padL_mem hy; omega
    rw [hx O (.inl rfl), hx (O + P - 8) (.inr rfl)]
    exact ⟨p1, p2⟩
  · have := W.2
    rw [show O + P + N + (S - P - N) - 8 = O + S - 8 by omega] at this
    exact this
theorem cut_in (c : CutB f0 E O S P N n owner F) (k : Cut1 f0 f O S F ((F ++ padL P O) ++ restL S P N O) ∧ PadW f O P ∧ RestW f O S P N) (hg : ∀ x, (x < O + P ∨ O + P + cutS S P N ≤ x) → g x = f x) : Cut1 f0 g O S F ((F ++ padL P O) ++ restL S P N O) ∧ PadW g O P ∧ RestW g O S P N := by
  have hb := c.bb
  have hP := c.pp
  have hfit := c.fit
  have hN := c.nn
  have hz : O + P + cutS S P N ≤ O + S ∧ (¬ S - P - N < 48 → cutS S P N = N) := by
    unfold cutS
    by_cases h : S - P - N < 48
    · rw [if_pos h]; exact ⟨by omega, fun h' => absurd h h'⟩
    · rw [if_neg h]; exact ⟨by omega, fun _ => rfl⟩
  refine ⟨⟨k.1.stay.trans fun x a _ _ => hg x (by omega), k.1.hung.congr (hg 32 (by omega)) fun y hy => ?_⟩, fun hp => ?_, fun hr => ?_⟩
  · have : y + 16 < O + P ∨ O + P + cutS S P N ≤ y := by
      rcases List.mem_append.1 hy with hy | hy
      · rcases List.mem_append.1 hy with hy | hy
        · have := c.out y hy; omega
        · have := padL_mem hy; omega
      · obtain ⟨h1, h2⟩ := restL_mem hy
        have := hz.2 h1
        omega
    exact ⟨hg _ (by omega), hg _ (by omega), hg _ (by omega)⟩
  · rw [hg _ (by omega), hg _ (by omega)]
    exact k.2.1 hp
  · have := hz.2 hr
    rw [hg _ (by omega), hg _ (by omega)]
    exact k.2.2 hr
def UsedW (f : Nat → Nat) (O P sz owner : Nat) : Prop := f (O + P) = packN sz true owner ∧ f (O + P + sz - 8) = packN sz true owner
theorem cutS_is (c : CutB f0 E O S P N n owner F) : cutS S P N % 16 = 0 ∧ N ≤ cutS S P N ∧ O + P + cutS S P N ≤ O + S := by
  have hb := c.bb
  have hP := c.pp
  have hfit := c.fit
  have hN := c.nn
  unfold cutS
  by_cases h : S - P - N < 48
  · rw [if_pos h]; omega
  · rw [if_neg h]; omega
theorem st_write (h : Txs w0 w T M R B D ws l) (hws : 8 * ws.length = 4800) (c : CutB f0 E O S P N n owner F) (k : Cut1 f0 (txSee ws l) O S F ((F ++ padL P O) ++ restL S P N O) ∧ PadW (txSee ws l) O P ∧ RestW (txSee ws l) O S P N) :
    Calls Tryz.prog 36 #[.pointer (some ⟨T, 0, none⟩), .int .u64 (O + P : Nat), .agg #[.int .u64 (cutS S P N : Nat), .bool true, .int .i64 owner]] w fun e w' => e = .returned (.int .i64 0) ∧ ∃ R' l', Txs w0 w' T M R' B D ws l' ∧ ((Cut1 f0 (txSee ws l') O S F ((F ++ padL P O) ++ restL S P N O) ∧ PadW (txSee ws l') O P ∧ RestW (txSee ws l') O S P N) ∧ UsedW (txSee ws l') O P (cutS S P N) owner) ∧ Keep w R w' R' := by
  have hb := c.bb
  have hP := c.pp
  have hfit := c.fit
  have hN := c.nn
  have hz := cutS_is c
  have ho := c.own
  refine (hwrite h hws (may_true hz.1 (by omega) (by omega) c.own) (by rw [k.1.top c]; unfold inP; omega) (by rw [k.1.top c]; omega)).mono ?_
  rintro e w' ⟨rfl, R', l', X, e1, kp⟩
  refine ⟨rfl, R', l', X, ⟨cut_in c k fun x hx => by rw [e1, if_neg (by omega)], ?_, ?_⟩, kp⟩
  · rw [e1, if_pos (.inl rfl)]
  · rw [e1, if_pos (.inr rfl)]
theorem st_fill (h : Txs w0 w T M R B D ws l) (hws : 8 * ws.length = 4800) (c : CutB f0 E O S P N n owner F) (k : (Cut1 f0 (txSee ws l) O S F ((F ++ padL P O) ++ restL S P N O) ∧ PadW (txSee ws l) O P ∧ RestW (txSee ws l) O S P N) ∧ UsedW (txSee ws l) O P (cutS S P N) owner) :
    Calls Tryz.prog 47 #[.pointer (some ⟨T, 0, none⟩), .int .u64 (O + P : Nat), .int .u64 n] w fun e w' => e = .returned (.tuple #[]) ∧ ∃ R' l', Txs w0 w' T M R' B D ws l' ∧ (Stay f0 (txSee ws l') O (O + S) F ∧ CutW O S P N (cutS S P N) n owner (txSee ws l') ∧ Hung (txSee ws l') ((F ++ padL P O) ++ restL S P N O) ∧ ∀ j, j < (n + 7) / 8 → txSee ws l' (O + P + 32 + 8 * j) = 0) ∧ Keep w R w' R' := by
  have hb := c.bb
  have hP := c.pp
  have hfit := c.fit
  have hN := c.nn
  have hn := c.ln
  have hz := cutS_is c
  refine (hfill h hws (by omega) (by omega)).mono ?_
  rintro e w' ⟨rfl, R', l', X, Fl, kp⟩
  have k2 := cut_in c k.1 (g := txSee ws l') fun x hx => by rw [Fl x, if_neg (by omega), if_neg (by omega)]
  refine ⟨rfl, R', l', X, ⟨k2.1.stay, ⟨k2.2.1, k2.2.2, ⟨?_, ?_⟩, ?_⟩, k2.1.hung, fun j hj => ?_⟩, kp⟩
  · rw [Fl, if_neg (by omega), if_neg (by omega)]; exact k.2.1
  · rw [Fl, if_neg (by omega), if_neg (by omega)]; exact k.2.2
  · rw [Fl, if_pos rfl]
  · rw [Fl, if_neg (by omega), if_pos (by omega)]
end
end Go.Proofs.YtcngmkfpbcemjaaGreat
