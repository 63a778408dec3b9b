/-
  Texts of one layer, one behind the other: memory, contracts of the functions, and what follows of them.
  Conditions: as each theorem says.
-/
import Derived.Test.YtcbdbflgfhbikaaGreatLSea
import Derived.Test.YtcbdbflgfhbikaaGreatLHea
import Derived.StillTailTactics
import Derived.Deep.RegionHeld3
import Derived.Deep.QuietTactic
import Derived.BigQuiet
import Derived.Test.YtcbdbflgfhbikaaGreatLTxb
import Derived.Test.YtcbdbflgfhbikaaGreatLTxa
import Derived.RangeFuncCalls
import Derived.TacticsInMore
import Derived.OrdersIn
import Derived.Test.YtcbdbflgfhbikaaGreatLTra
set_option linter.unusedVariables false
set_option linter.unusedSimpArgs false
namespace Go.Proofs.YtcbdbflgfhbikaaGreat
def Strung (f : Nat → Nat) : Nat → List Nat → Nat → Prop
  | _, [], _ => True
  | p, x :: r, q => f (x + 24) = p ∧ f (x + 16) = r.headD q ∧ Strung f x r q
theorem strung_cons {f : Nat → Nat} {x : Nat} {r : List Nat} {p q : Nat} : Strung f p (x :: r) q ↔ f (x + 24) = p ∧ f (x + 16) = r.headD q ∧ Strung f x r q := Iff.rfl
theorem headD_append (us bs : List Nat) (q : Nat) : (us ++ bs).headD q = us.headD (bs.headD q) := by cases us <;> rfl
theorem lastD_cons (x : Nat) (r : List Nat) (p : Nat) : (x :: r).getLastD p = r.getLastD x := by cases r <;> rfl
theorem strung_append {f : Nat → Nat} {us bs : List Nat} {p q : Nat} : Strung f p (us ++ bs) q ↔ Strung f p us (bs.headD q) ∧ Strung f (us.getLastD p) bs q := by
  induction us generalizing p with
  | nil => simp [Strung]
  | cons x r ih =>
    rw [List.cons_append, lastD_cons, strung_cons, strung_cons, ih, headD_append]
    constructor
    · rintro ⟨h1, h2, h3, h4⟩; exact ⟨⟨h1, h2, h3⟩, h4⟩
    · rintro ⟨⟨h1, h2, h3⟩, h4⟩; exact ⟨h1, h2, h3, h4⟩
theorem Strung.congr {f g : Nat → Nat} {xs : List Nat} {p q : Nat} (h : Strung f p xs q) (hg : ∀ x ∈ xs, g (x + 16) = f (x + 16) ∧ g (x + 24) = f (x + 24)) : Strung g p xs q := by
  induction xs generalizing p with
  | nil => trivial
  | cons x r ih =>
    obtain ⟨h1, h2, h3⟩ := h
    obtain ⟨g1, g2⟩ := hg x (by simp)
    exact ⟨g2.trans h1, g1.trans h2, ih h3 (fun y hy => hg y (by simp [hy]))⟩
structure Grid (U : List Nat) : Prop where
  lo : ∀ x ∈ U, 3776 ≤ x ∧ x % 8 = 0 ∧ x + 48 ≤ 4800
  far : ∀ x ∈ U, ∀ y ∈ U, x ≠ y → x + 48 ≤ y ∨ y + 48 ≤ x
def slotH (c : Nat) : Nat := 72 + 416 * c
theorem slotH_inj {c d : Nat} (h : slotH c = slotH d) : c = d := by unfold slotH at h; omega
theorem slotH_lt {c : Nat} (h : c < 8) : slotH c < 3776 := by unfold slotH; omega
structure Ledg (U : List Nat) (f : Nat → Nat) (L : Nat → List Nat) : Prop where
  on : ∀ c, c < 8 → ∀ x ∈ L c, x ∈ U
  once : ∀ c, c < 8 → (L c).Nodup
  apart : ∀ c d, c < 8 → d < 8 → c ≠ d → ∀ x ∈ L c, x ∉ L d
  head : ∀ c, c < 8 → f (slotH c) = (L c).headD 0
  strung : ∀ c, c < 8 → Strung f 0 (L c) 0
def setL (L : Nat → List Nat) (c : Nat) (xs : List Nat) : Nat → List Nat := fun d => if d = c then xs else L d
theorem setL_same (L : Nat → List Nat) (c : Nat) (xs : List Nat) : setL L c xs c = xs := if_pos rfl
theorem setL_other {L : Nat → List Nat} {c d : Nat} (xs : List Nat) (h : d ≠ c) : setL L c xs d = L d := if_neg h
def linkF (f : Nat → Nat) (c off : Nat) : Nat → Nat := fun x =>
  if x = slotH c then off else if f (slotH c) ≠ 0 ∧ x = f (slotH c) + 24 then off else if x = off + 24 then 0 else if x = off + 16 then f (slotH c) else f x
def unlinkF (f : Nat → Nat) (c off : Nat) : Nat → Nat := fun x =>
  if f (off + 24) = 0 ∧ x = slotH c then f (off + 16) else if f (off + 24) ≠ 0 ∧ x = f (off + 24) + 16 then f (off + 16) else if f (off + 16) ≠ 0 ∧ x = f (off + 16) + 24 then f (off + 24) else f x
section
variable {U : List Nat} {f g : Nat → Nat} {L : Nat → List Nat} {c off : Nat}
theorem Ledg.head_on (h : Ledg U f L) (hU : Grid U) (hc : c < 8) (hn : f (slotH c) ≠ 0) : f (slotH c) ∈ U ∧ ∃ r, L c = f (slotH c) :: r := by
  have hh := h.head c hc
  cases hl : L c with
  | nil => rw [hl] at hh; exact absurd hh hn
  | cons x r =>
    rw [hl] at hh
    have e : f (slotH c) = x := hh
    rw [e]
    exact ⟨h.on c hc x (by rw [hl]; simp), r, rfl⟩
theorem Ledg.link (h : Ledg U f L) (hU : Grid U) (hc : c < 8) (ho : off ∈ U) (hn : ∀ d, d < 8 → off ∉ L d) (hg : ∀ x, g x = linkF f c off x) : Ledg U g (setL L c (off :: L c)) := by
  have o1 := hU.lo off ho
  have hs := slotH_lt hc
  have hhd := h.head c hc
  have keep : ∀ x ∈ U, x ≠ off → (f (slotH c) = 0 ∨ x ≠ f (slotH c)) → g (x + 16) = f (x + 16) ∧ g (x + 24) = f (x + 24) := fun x hx hxo hxh => by
    have x1 := hU.lo x hx
    have x2 := hU.far x hx off ho hxo
    rw [hg, hg]
    unfold linkF
    by_cases h0 : f (slotH c) = 0
    · rw [if_neg (by omega), if_neg (fun e => e.1 h0), if_neg (by omega), if_neg (by omega), if_neg (by omega), if_neg (fun e => e.1 h0), if_neg (by omega), if_neg (by omega)]
      exact ⟨rfl, rfl⟩
    · obtain ⟨hU1, _⟩ := h.head_on hU hc h0
      have x3 := hU.far x hx _ hU1 (by rcases hxh with e | e; exact absurd e h0; exact e)
      rw [if_neg (by omega), if_neg (by omega), if_neg (by omega), if_neg (by omega), if_neg (by omega), if_neg (by omega), if_neg (by omega), if_neg (by omega)]
      exact ⟨rfl, rfl⟩
  have hgs : g (slotH c) = off := by rw [hg]; unfold linkF; rw [if_pos rfl]
  have hgd : ∀ d, d < 8 → d ≠ c → g (slotH d) = f (slotH d) := fun d hd hdc => by
    have := slotH_lt hd
    have hne : slotH d ≠ slotH c := fun e => hdc (slotH_inj e)
    rw [hg]
    unfold linkF
    by_cases h0 : f (slotH c) = 0
    · rw [if_neg hne, if_neg (fun e => e.1 h0), if_neg (by omega), if_neg (by omega)]
    · have := hU.lo _ (h.head_on hU hc h0).1
      rw [if_neg hne, if_neg (by omega), if_neg (by omega), if_neg (by omega)]
  refine ⟨fun d hd x hx => ?_, fun d hd => ?_, fun d e hd he hde x hx => ?_, fun d hd => ?_, fun d hd => ?_⟩
  · by_cases e : d = c
    · subst e
      rw [setL_same] at hx
      rcases List.mem_cons.1 hx with rfl | hx
      · exact ho
      · exact h.on d hd x hx
    · rw [setL_other _ e] at hx
      exact h.on d hd x hx
  · by_cases e : d = c
    · subst e
      rw [setL_same]
      exact List.nodup_cons.2 ⟨hn d hd, h.once d hd⟩
    · rw [setL_other _ e]
      exact h.once d hd
  · by_cases e1 : d = c
    · subst e1
      rw [setL_same] at hx
      rw [setL_other _ (fun e => hde e.symm)]
      rcases List.mem_cons.1 hx with rfl | hx
      · exact hn e he
      · exact h.apart d e hd he hde x hx
    · rw [setL_other _ e1] at hx
      by_cases e2 : e = c
      · subst e2
        rw [setL_same]
        intro hm
        rcases List.mem_cons.1 hm with rfl | hm
        · exact hn d hd hx
        · exact h.apart d e hd he hde x hx hm
      · rw [setL_other _ e2]
        exact h.apart d e hd he hde x hx
  · by_cases e : d = c
    · subst e
      rw [setL_same, hgs]; rfl
    · rw [setL_other _ e, hgd d hd e]
      exact h.head d hd
  · by_cases e : d = c
    · subst e
      rw [setL_same]
      have hst := h.strung d hd
      have g24 : g (off + 24) = 0 := by
        rw [hg]; unfold linkF
        by_cases h0 : f (slotH d) = 0
        · rw [if_neg (by omega), if_neg (fun e => e.1 h0), if_pos rfl]
        · obtain ⟨hU1, r, hr⟩ := h.head_on hU hd h0
          have hne : off ≠ f (slotH d) := fun e => hn d hd (by rw [hr, ← e]; simp)
          have := hU.far off ho _ hU1 hne
          rw [if_neg (by omega), if_neg (by omega), if_pos rfl]
      have g16 : g (off + 16) = (L d).headD 0 := by
        rw [← hhd, hg]; unfold linkF
        by_cases h0 : f (slotH d) = 0
        · rw [if_neg (by omega), if_neg (fun e => e.1 h0), if_neg (by omega), if_pos rfl]
        · obtain ⟨hU1, r, hr⟩ := h.head_on hU hd h0
          have hne : off ≠ f (slotH d) := fun e => hn d hd (by rw [hr, ← e]; simp)
          have := hU.far off ho _ hU1 hne
          rw [if_neg (by omega), if_neg (by omega), if_neg (by omega), if_pos rfl]
      refine ⟨g24, g16, ?_⟩
      cases hl : L d with
      | nil => trivial
      | cons x r =>
        rw [hl] at hst hhd
        have ex : f (slotH d) = x := hhd
        have hxU := h.on d hd x (by rw [hl]; simp)
        have x1 := hU.lo x hxU
        have hxo : x ≠ off := fun e => hn d hd (by rw [hl, ← e]; simp)
        have x2 := hU.far x hxU off ho hxo
        obtain ⟨s1, s2, s3⟩ := hst
        have hnd := h.once d hd
        rw [hl] at hnd
        refine ⟨?_, ?_, s3.congr (fun y hy => ?_)⟩
        · rw [hg]; unfold linkF; rw [ex, if_neg (by omega), if_pos ⟨by omega, rfl⟩]
        · rw [hg]; unfold linkF; rw [ex, if_neg (by omega), if_neg (by omega), if_neg (by omega), if_neg (by omega)]; exact s2
        · have hyU := h.on d hd y (by rw [hl]; simp [hy])
          refine keep y hyU (fun e => hn d hd (by rw [hl, ← e]; simp [hy])) (.inr fun e => ?_)
          rw [ex] at e
          subst e
          exact (List.nodup_cons.1 hnd).1 hy
    · rw [setL_other _ e]
      refine (h.strung d hd).congr (fun x hx => keep x (h.on d hd x hx) (fun e2 => hn d hd (e2 ▸ hx)) ?_)
      by_cases h0 : f (slotH c) = 0
      · exact .inl h0
      · obtain ⟨_, r, hr⟩ := h.head_on hU hc h0
        exact .inr fun e2 => h.apart d c hd hc e x hx (by rw [hr, ← e2]; simp)
theorem without_at {us bs : List Nat} {x : Nat} (h : (us ++ x :: bs).Nodup) : (us ++ x :: bs).filter (fun y => decide (y ≠ x)) = us ++ bs := by
  rw [List.nodup_append] at h
  obtain ⟨h1, h2, h3⟩ := h
  obtain ⟨h4, h5⟩ := List.nodup_cons.1 h2
  rw [List.filter_append, List.filter_cons_of_neg (by simp)]
  have e1 : us.filter (fun y => decide (y ≠ x)) = us := List.filter_eq_self.2 (fun y hy => decide_eq_true (fun e => h3 y hy x (by simp) e))
  have e2 : bs.filter (fun y => decide (y ≠ x)) = bs := List.filter_eq_self.2 (fun y hy => decide_eq_true (fun e => h4 (e ▸ hy)))
  rw [e1, e2]
theorem Ledg.unlink (h : Ledg U f L) (hU : Grid U) (hc : c < 8) (ho : off ∈ L c) (hg : ∀ x, x ≠ off + 16 → x ≠ off + 24 → g x = unlinkF f c off x) : Ledg U g (setL L c ((L c).filter fun y => decide (y ≠ off))) := by
  obtain ⟨us, bs, hl⟩ := List.append_of_mem ho
  have hnd := h.once c hc
  rw [hl] at hnd
  rw [hl, without_at hnd]
  have hoU := h.on c hc off ho
  have o1 := hU.lo off hoU
  have hs := slotH_lt hc
  have hst := h.strung c hc
  rw [hl, strung_append, strung_cons] at hst
  obtain ⟨s1, s2, s3, s4⟩ := hst
  have hhd := h.head c hc
  rw [hl, headD_append] at hhd
  have hon : ∀ x, x ∈ us ∨ x ∈ bs → x ∈ L c ∧ x ∈ U ∧ x ≠ off := fun x hx => by
    have hm : x ∈ L c := by rw [hl]; rcases hx with hx | hx <;> simp [hx]
    refine ⟨hm, h.on c hc x hm, fun e => ?_⟩
    subst e
    rw [List.nodup_append] at hnd
    rcases hx with hx | hx
    · exact hnd.2.2 x hx x (by simp) rfl
    · exact (List.nodup_cons.1 hnd.2.1).1 hx
  obtain ⟨p, hp⟩ : ∃ p, f (off + 24) = p := ⟨_, rfl⟩
  obtain ⟨n, hn⟩ : ∃ n, f (off + 16) = n := ⟨_, rfl⟩
  rw [hp] at s2
  rw [hn] at s3
  have hu : ∀ x, unlinkF f c off x = if p = 0 ∧ x = slotH c then n else if p ≠ 0 ∧ x = p + 16 then n else if n ≠ 0 ∧ x = n + 24 then p else f x := fun x => by unfold unlinkF; rw [hp, hn]
  have hpw : p ≠ 0 → ∃ us', us = us' ++ [p] := fun h0 => by
    rcases List.eq_nil_or_concat us with e | ⟨r, z, e⟩
    · subst e; exact absurd s2 h0
    · rw [List.concat_eq_append] at e
      subst e
      refine ⟨r, ?_⟩
      rw [s2]
      simp
  have hp0 : p = 0 → us = [] := fun h0 => by
    rcases List.eq_nil_or_concat us with e | ⟨r, z, e⟩
    · exact e
    · rw [List.concat_eq_append] at e
      subst e
      have hz := (hon z (.inl (by simp))).2.1
      have := (hU.lo z hz).1
      have : p = z := by rw [s2]; simp
      omega
  have hnw : n ≠ 0 → ∃ r, bs = n :: r := fun h0 => by
    cases bs with
    | nil => exact absurd s3 h0
    | cons b r => exact ⟨r, by rw [show n = b from s3]⟩
  have hn0 : n = 0 → bs = [] := fun h0 => by
    cases bs with
    | nil => rfl
    | cons b r =>
      have := (hU.lo b (hon b (.inr (by simp))).2.1).1
      have : n = b := s3
      omega
  have hpU : p ≠ 0 → p ∈ U ∧ p ≠ off ∧ p ∈ L c := fun h0 => by
    obtain ⟨r, e⟩ := hpw h0
    obtain ⟨a1, a2, a3⟩ := hon p (.inl (by rw [e]; simp))
    exact ⟨a2, a3, a1⟩
  have hnU : n ≠ 0 → n ∈ U ∧ n ≠ off ∧ n ∈ L c := fun h0 => by
    obtain ⟨r, e⟩ := hnw h0
    obtain ⟨a1, a2, a3⟩ := hon n (.inr (by rw [e]; simp))
    exact ⟨a2, a3, a1⟩
  have k16 : ∀ x ∈ U, x ≠ off → x ≠ p → g (x + 16) = f (x + 16) := fun x hx hxo hxp => by
    have x1 := hU.lo x hx
    have x2 := hU.far x hx off hoU hxo
    rw [hg _ (by omega) (by omega), hu, if_neg (by omega), if_neg (by omega), if_neg (fun e => by
      obtain ⟨a1, _⟩ := hnU e.1
      have := hU.far x hx n a1
      have := hU.lo n a1
      by_cases e2 : x = n
      · omega
      · have := this; have := hU.far x hx n a1 e2; omega)]
  have k24 : ∀ x ∈ U, x ≠ off → x ≠ n → g (x + 24) = f (x + 24) := fun x hx hxo hxn => by
    have x1 := hU.lo x hx
    have x2 := hU.far x hx off hoU hxo
    rw [hg _ (by omega) (by omega), hu, if_neg (by omega), if_neg (fun e => by
      obtain ⟨a1, _⟩ := hpU e.1
      by_cases e2 : x = p
      · omega
      · have := hU.far x hx p a1 e2; omega), if_neg (by omega)]
  have hgs : g (slotH c) = (us ++ bs).headD 0 := by
    rw [hg _ (by omega) (by omega), hu, headD_append]
    by_cases h0 : p = 0
    · rw [if_pos ⟨h0, rfl⟩, hp0 h0]; exact s3
    · have := hU.lo p (hpU h0).1
      obtain ⟨r, e⟩ := hpw h0
      rw [if_neg (fun e => h0 e.1), if_neg (by omega), if_neg (fun e2 => by have := hU.lo n (hnU e2.1).1; omega), hhd, e]
      cases r <;> rfl
  have hgd : ∀ d, d < 8 → d ≠ c → g (slotH d) = f (slotH d) := fun d hd hdc => by
    have := slotH_lt hd
    have hne : slotH d ≠ slotH c := fun e => hdc (slotH_inj e)
    rw [hg _ (by omega) (by omega), hu, if_neg (fun e => hne e.2), if_neg (fun e => by have := hU.lo p (hpU e.1).1; omega), if_neg (fun e => by have := hU.lo n (hnU e.1).1; omega)]
  refine ⟨fun d hd x hx => ?_, fun d hd => ?_, fun d e hd he hde x hx => ?_, fun d hd => ?_, fun d hd => ?_⟩
  · by_cases e : d = c
    · subst e
      rw [setL_same] at hx
      exact (hon x (List.mem_append.1 hx)).2.1
    · rw [setL_other _ e] at hx
      exact h.on d hd x hx
  · by_cases e : d = c
    · subst e
      rw [setL_same, ← without_at hnd]
      exact hnd.filter _
    · rw [setL_other _ e]
      exact h.once d hd
  · by_cases e1 : d = c
    · subst e1
      rw [setL_same] at hx
      rw [setL_other _ (fun e => hde e.symm)]
      exact h.apart d e hd he hde x (hon x (List.mem_append.1 hx)).1
    · rw [setL_other _ e1] at hx
      by_cases e2 : e = c
      · subst e2
        rw [setL_same]
        exact fun hm => h.apart d e hd he hde x hx (hon x (List.mem_append.1 hm)).1
      · rw [setL_other _ e2]
        exact h.apart d e hd he hde x hx
  · by_cases e : d = c
    · subst e
      rw [setL_same]; exact hgs
    · rw [setL_other _ e, hgd d hd e]
      exact h.head d hd
  · by_cases e : d = c
    · subst e
      rw [setL_same, strung_append]
      rw [List.nodup_append] at hnd
      obtain ⟨n1, n2, n3⟩ := hnd
      obtain ⟨n4, n5⟩ := List.nodup_cons.1 n2
      constructor
      · rw [show bs.headD 0 = n from s3.symm]
        by_cases h0 : p = 0
        · rw [hp0 h0]; trivial
        · obtain ⟨r, e⟩ := hpw h0
          subst e
          rw [strung_append] at s1 ⊢
          obtain ⟨t1, t2⟩ := s1
          rw [strung_cons] at t2 ⊢
          obtain ⟨u1, u2, _⟩ := t2
          obtain ⟨q1, q2, q3⟩ := hpU h0
          have pl := hU.lo p q1
          have po := hU.far p q1 off hoU q2
          have hpn : p ≠ n := fun e => by
            have hn' : n ≠ 0 := by omega
            obtain ⟨r2, e2⟩ := hnw hn'
            exact n3 p (by simp) p (by rw [e2, ← e]; simp) rfl
          refine ⟨t1.congr (fun y hy => ?_), ?_, ?_, trivial⟩
          · obtain ⟨y1, y2, y3⟩ := hon y (.inl (by simp [hy]))
            have hyp : y ≠ p := fun e => by
              rw [List.nodup_append] at n1
              exact n1.2.2 y hy p (by simp) e
            have hyn : y ≠ n := fun e => by
              have := hU.lo y y2
              obtain ⟨r2, e2⟩ := hnw (by omega)
              exact n3 y (by simp [hy]) y (by rw [e2, ← e]; simp) rfl
            exact ⟨k16 y y2 y3 hyp, k24 y y2 y3 hyn⟩
          · rw [k24 p q1 q2 hpn]; exact u1
          · rw [hg _ (by omega) (by omega), hu, if_neg (by omega), if_pos ⟨h0, rfl⟩]; rfl
      · rw [← s2]
        by_cases h0 : n = 0
        · rw [hn0 h0]; trivial
        · obtain ⟨r, e⟩ := hnw h0
          subst e
          rw [strung_cons] at s4 ⊢
          obtain ⟨u1, u2, u3⟩ := s4
          obtain ⟨q1, q2, q3⟩ := hnU h0
          have nl := hU.lo n q1
          have no := hU.far n q1 off hoU q2
          have hpn : n ≠ p := fun e => by
            have hp' : p ≠ 0 := by omega
            obtain ⟨r2, e2⟩ := hpw hp'
            exact n3 p (by rw [e2]; simp) p (by rw [← e]; simp) rfl
          refine ⟨?_, ?_, u3.congr (fun y hy => ?_)⟩
          · rw [hg _ (by omega) (by omega), hu, if_neg (by omega), if_neg (fun e => by
              have := hU.far n q1 p (hpU e.1).1 hpn
              omega), if_pos ⟨h0, rfl⟩]
          · rw [k16 n q1 q2 hpn]; exact u2
          · obtain ⟨y1, y2, y3⟩ := hon y (.inr (by simp [hy]))
            have hyn : y ≠ n := fun e => (List.nodup_cons.1 n5).1 (e ▸ hy)
            have hyp : y ≠ p := fun e => by
              have := hU.lo y y2
              obtain ⟨r2, e2⟩ := hpw (by omega)
              exact n3 p (by rw [e2]; simp) y (by simp [hy]) e.symm
            exact ⟨k16 y y2 y3 hyp, k24 y y2 y3 hyn⟩
    · rw [setL_other _ e]
      refine (h.strung d hd).congr (fun x hx => ?_)
      have hxU := h.on d hd x hx
      have hxo : x ≠ off := fun e2 => h.apart d c hd hc e x hx (e2 ▸ ho)
      have x1 := hU.lo x hxU
      refine ⟨k16 x hxU hxo (fun e2 => ?_), k24 x hxU hxo (fun e2 => ?_)⟩
      · exact h.apart d c hd hc e x hx (e2 ▸ (hpU (by omega)).2.2)
      · exact h.apart d c hd hc e x hx (e2 ▸ (hnU (by omega)).2.2)
theorem Ledg.none (hf : ∀ c, c < 8 → f (slotH c) = 0) : Ledg U f fun _ => [] where
  on := fun c hc x hx => by simp at hx
  once := fun c hc => List.nodup_nil
  apart := fun c d hc hd hcd x hx => by simp at hx
  head := hf
  strung := fun c hc => trivial
theorem Ledg.same (h : Ledg U f L) (hg : ∀ x, g x = f x) : Ledg U g L := by
  have : g = f := funext hg
  rw [this]; exact h
end
def StrungW (f : Nat → Nat) : Nat → List Nat → Nat → Prop
  | _, [], _ => True
  | p, x :: r, q => (f ((x + 16) % 18446744073709551616) = r.headD q ∧ f ((x + 24) % 18446744073709551616) = p) ∧ StrungW f x r q
instance decStrungW (f : Nat → Nat) : ∀ (p : Nat) (l : List Nat) (q : Nat), Decidable (StrungW f p l q)
  | _, [], _ => isTrue trivial
  | p, x :: r, q => by
    have := decStrungW f x r q
    unfold StrungW
    infer_instance
theorem strungW_of {f : Nat → Nat} {p q : Nat} {l : List Nat} (hl : ∀ x ∈ l, x + 24 < 18446744073709551616) : StrungW f p l q ↔ Strung f p l q := by
  induction l generalizing p with
  | nil => exact Iff.rfl
  | cons x r ih =>
    have hx := hl x (by simp)
    rw [strung_cons]
    show (_ ∧ _) ∧ _ ↔ _
    rw [ih (fun y hy => hl y (by simp [hy])), Nat.mod_eq_of_lt (by omega), Nat.mod_eq_of_lt (by omega)]
    constructor
    · rintro ⟨⟨h1, h2⟩, h3⟩; exact ⟨h2, h1, h3⟩
    · rintro ⟨h1, h2, h3⟩; exact ⟨⟨h2, h1⟩, h3⟩
def ckAt (f : Nat → Nat) (l : List Nat) (i : Nat) : Prop :=
  f ((l.getD i 0 + 16) % 18446744073709551616) = l.getD (i + 1) 0 ∧ f ((l.getD i 0 + 24) % 18446744073709551616) = if i = 0 then 0 else l.getD (i - 1) 0
theorem strungW_at {f : Nat → Nat} : ∀ {l : List Nat} {p : Nat}, StrungW f p l 0 ↔ ∀ i, i < l.length → f ((l.getD i 0 + 16) % 18446744073709551616) = l.getD (i + 1) 0 ∧ f ((l.getD i 0 + 24) % 18446744073709551616) = if i = 0 then p else l.getD (i - 1) 0
  | [], p => ⟨fun _ i hi => by simp at hi, fun _ => trivial⟩
  | x :: r, p => by
    show (_ ∧ _) ∧ _ ↔ _
    rw [strungW_at (l := r) (p := x)]
    constructor
    · rintro ⟨⟨h1, h2⟩, h3⟩ i hi
      cases i with
      | zero =>
        refine ⟨?_, by simpa using h2⟩
        rw [show (x :: r).getD 0 0 = x from rfl, h1]
        cases r <;> rfl
      | succ j =>
        have := h3 j (by simpa using hi)
        refine ⟨by simpa using this.1, ?_⟩
        rw [show (x :: r).getD (j + 1) 0 = r.getD j 0 from rfl, this.2]
        cases j with
        | zero => rfl
        | succ m => rfl
    · intro h
      have h0 := h 0 (by simp)
      refine ⟨⟨?_, by simpa using h0.2⟩, fun j hj => ?_⟩
      · have := h0.1
        rw [show (x :: r).getD 0 0 = x from rfl] at this
        rw [this]
        cases r <;> rfl
      · have := h (j + 1) (by simpa using hj)
        rw [show (x :: r).getD (j + 1) 0 = r.getD j 0 from rfl] at this
        refine ⟨by simpa using this.1, ?_⟩
        rw [this.2, if_neg (by omega)]
        cases j with
        | zero => rfl
        | succ m => rfl
def ckL (f : Nat → Nat) (hd : Nat) (l : List Nat) : Prop := hd = l.headD 0 ∧ StrungW f 0 l 0
instance (f : Nat → Nat) (hd : Nat) (l : List Nat) : Decidable (ckL f hd l) := by unfold ckL; infer_instance
theorem Ledg.check {U : List Nat} {f : Nat → Nat} {L : Nat → List Nat} (h : Ledg U f L) (hU : Grid U) {c : Nat} (hc : c < 8) : ckL f (f (slotH c)) (L c) :=
  ⟨h.head c hc, (strungW_of (fun x hx => by have := hU.lo x (h.on c hc x hx); omega)).2 (h.strung c hc)⟩
end Go.Proofs.YtcbdbflgfhbikaaGreat
namespace Go.Proofs.YtcbdbflgfhbikaaGreat
open Go.RowKit
set_option maxRecDepth 100000
def thereP (c : Int) : Prop := 0 ≤ c ∧ c < 8
instance (c : Int) : Decidable (thereP c) := by unfold thereP; infer_instance
def slotP (c : Int) (q : Nat) : Prop := thereP c ∧ q % 8 = 0 ∧ q < 416
instance (c : Int) (q : Nat) : Decidable (slotP c q) := by unfold slotP; infer_instance
def slotN (c : Int) (q : Nat) : Nat := 64 + 416 * c.toNat + q
def cGet (ws : List Nat) (l : List (Nat × Nat)) (c : Int) (q : Nat) : Nat := if slotP c q then txSee ws l (slotN c q) else 0
def cSet (ws : List Nat) (l : List (Nat × Nat)) (c : Int) (q v : Nat) : List (Nat × Nat) := if slotP c q then txStore ws l (slotN c q) v else l
def wordN (c : Int) (q : Nat) : Nat := if slotP c q then slotN c q else 0
theorem slot_lt {c : Int} {q : Nat} (h : slotP c q) : slotN c q < 3776 := by unfold slotP thereP at h; unfold slotN; omega
theorem there_any (c : Int) (w : World) : Calls Tryz.prog 148 #[.int .i64 c] w fun e w' => e = .returned (.bool (decide (thereP c))) ∧ w = w' := by
  by_cases h0 : 0 ≤ c
  · rw [show decide (thereP c) = decide (c < 8) by rw [decide_eq_decide]; unfold thereP; omega]
    go_enter Tryz.func148, Tryz.ntmps148
    go_wp2
    go_ret
    exact ⟨rfl, rfl⟩
  · rw [decide_eq_false (show ¬ thereP c by unfold thereP; omega)]
    go_enter Tryz.func148, Tryz.ntmps148
    go_wp2
    go_ret
    exact ⟨rfl, rfl⟩
set_option maxHeartbeats 1000000 in
theorem cword_any (c : Int) (q : Nat) (w : World) : Calls Tryz.prog 141 #[.int .i64 c, .int .u64 q] w fun e w' => e = .returned (.tuple #[.int .u64 (wordN c q : Nat), .bool (decide (slotP c q))]) ∧ w = w' := by
  have ht := there_any c w
  unfold wordN
  by_cases hc : thereP c
  · rw [decide_eq_true hc] at ht
    by_cases h8 : (q : Int) % 8 = 0
    · by_cases hq : (q : Int) < 416
      · have hs : slotP c q := ⟨hc, by omega, by omega⟩
        rw [if_pos hs, decide_eq_true hs]
        obtain ⟨k, rfl⟩ := Int.eq_ofNat_of_zero_le hc.1
        have hk : k < 8 := by have := hc.2; omega
        have e1 : IntKind.u64.wrap (k : Int) = (k : Nat) := by rw [IntKind.wrap_u64]; omega
        have e2 : IntKind.u64.wrap ((k : Int) * 416) = (416 * k : Nat) := by rw [IntKind.wrap_u64]; omega
        have e3 : IntKind.u64.wrap (64 + ((416 * k : Nat) : Int)) = (64 + 416 * k : Nat) := by rw [IntKind.wrap_u64]; omega
        have e4 : IntKind.u64.wrap (((64 + 416 * k : Nat) : Int) + (q : Int)) = (slotN (k : Int) q : Nat) := by rw [IntKind.wrap_u64]; unfold slotN; simp only [Int.toNat_natCast]; omega
        go_enter Tryz.func141, Tryz.ntmps141
        go_wp2_with (go_at_call 148; (with_reducible refine ht.mono ?_); rintro e w1 ⟨rfl, rfl⟩)
        refine bodyPost_ret (v := .tuple #[.int .u64 (slotN (k : Int) q : Nat), .bool true]) (by simp [results, Tryz.results141, go_sem, slotN]) rfl ⟨rfl, rfl⟩
      · have hs : ¬ slotP c q := fun h => by have := h.2.2; omega
        rw [if_neg hs, decide_eq_false hs]
        go_enter Tryz.func141, Tryz.ntmps141
        go_wp2_with (go_at_call 148; (with_reducible refine ht.mono ?_); rintro e w1 ⟨rfl, rfl⟩)
        refine bodyPost_ret (v := .tuple #[.int .u64 (0 : Nat), .bool false]) (by simp [results, Tryz.results141, go_sem]) rfl ⟨rfl, rfl⟩
    · have hs : ¬ slotP c q := fun h => by have := h.2.1; omega
      rw [if_neg hs, decide_eq_false hs]
      go_enter Tryz.func141, Tryz.ntmps141
      go_wp2_with (go_at_call 148; (with_reducible refine ht.mono ?_); rintro e w1 ⟨rfl, rfl⟩)
      refine bodyPost_ret (v := .tuple #[.int .u64 (0 : Nat), .bool false]) (by simp [results, Tryz.results141, go_sem]) rfl ⟨rfl, rfl⟩
  · rw [decide_eq_false hc] at ht
    have hs : ¬ slotP c q := fun h => hc h.1
    rw [if_neg hs, decide_eq_false hs]
    go_enter Tryz.func141, Tryz.ntmps141
    go_wp2_with (go_at_call 148; (with_reducible refine ht.mono ?_); rintro e w1 ⟨rfl, rfl⟩)
    refine bodyPost_ret (v := .tuple #[.int .u64 (0 : Nat), .bool false]) (by simp [results, Tryz.results141, go_sem]) rfl ⟨rfl, rfl⟩
section
variable {w : World} {T M : Nat} {R : Option Nat} {B D : Nat} {ws : List Nat} {l : List (Nat × Nat)}
set_option maxHeartbeats 1000000 in
theorem cload_any (h : Thinks w T M R B D ws l) (c : Int) (q : Nat) : Calls Tryz.prog 124 #[.pointer (some ⟨T, 0, none⟩), .int .i64 c, .int .u64 q] w fun e w' => e = .returned (.int .u64 (cGet ws l c q : Nat)) ∧ w.grownBy w' none := by
  have hw := cword_any c q w
  unfold wordN at hw
  unfold cGet
  by_cases hs : slotP c q
  · rw [decide_eq_true hs, if_pos hs] at hw
    have hl := txload_any h (slotN c q) (by have := slot_lt hs; omega)
    rw [if_pos hs]
    obtain ⟨n, hn⟩ : ∃ n, slotN c q = n := ⟨_, rfl⟩
    rw [hn] at hw hl ⊢
    go_enter Tryz.func124, Tryz.ntmps124
    go_wp2_with (first | (go_at_call 141; (with_reducible refine hw.mono ?_); rintro e w1 ⟨rfl, rfl⟩) | (go_at_call 17; (with_reducible refine hl.mono ?_); rintro e w2 ⟨rfl, hg2⟩))
    go_ret
    exact ⟨rfl, hg2⟩
  · rw [decide_eq_false hs, if_neg hs] at hw
    rw [if_neg hs]
    go_enter Tryz.func124, Tryz.ntmps124
    go_wp2_with (first | (go_at_call 141; (with_reducible refine hw.mono ?_); rintro e w1 ⟨rfl, rfl⟩))
    go_ret
    exact ⟨rfl, grown_refl _ _⟩
set_option maxHeartbeats 1000000 in
theorem cstore_any (h : Thinks w T M R B D ws l) (c : Int) (q v : Nat) (hv : v < 18446744073709551616) : Calls Tryz.prog 160 #[.pointer (some ⟨T, 0, none⟩), .int .i64 c, .int .u64 q, .int .u64 v] w fun e w' => e = .returned (.bool (decide (slotP c q))) ∧ Thought w T M R B D ws (cSet ws l c q v) w' := by
  have hw := cword_any c q w
  unfold wordN at hw
  unfold cSet
  by_cases hs : slotP c q
  · rw [decide_eq_true hs, if_pos hs] at hw
    have hl := txstore_any h (slotN c q) v (by have := slot_lt hs; omega) hv
    rw [if_pos hs, decide_eq_true hs]
    obtain ⟨n, hn⟩ : ∃ n, slotN c q = n := ⟨_, rfl⟩
    rw [hn] at hw hl ⊢
    go_enter Tryz.func160, Tryz.ntmps160
    go_wp2_with (first | (go_at_call 141; (with_reducible refine hw.mono ?_); rintro e w1 ⟨rfl, rfl⟩) | (go_at_call 16; (with_reducible refine hl.mono ?_); rintro e w2 ⟨rfl, ht2⟩))
    go_ret
    exact ⟨rfl, ht2⟩
  · rw [decide_eq_false hs, if_neg hs] at hw
    rw [if_neg hs, decide_eq_false hs]
    go_enter Tryz.func160, Tryz.ntmps160
    go_wp2_with (first | (go_at_call 141; (with_reducible refine hw.mono ?_); rintro e w1 ⟨rfl, rfl⟩))
    go_ret
    exact ⟨rfl, Thought.same h (grown_refl _ _)⟩
theorem chead_any (h : Thinks w T M R B D ws l) (c : Int) : Calls Tryz.prog 78 #[.pointer (some ⟨T, 0, none⟩), .int .i64 c] w fun e w' => e = .returned (.int .u64 (cGet ws l c 8 : Nat)) ∧ w.grownBy w' none := by
  have hl : Calls Tryz.prog 124 #[.pointer (some ⟨T, 0, none⟩), .int .i64 c, .int .u64 8] w _ := cload_any h c 8
  go_enter Tryz.func78, Tryz.ntmps78
  go_wp2_with (first | (go_at_call 124; (with_reducible refine hl.mono ?_); rintro e w1 ⟨rfl, hg1⟩))
  go_ret
  exact ⟨rfl, hg1⟩
theorem cpoint_any (h : Thinks w T M R B D ws l) (c : Int) (v : Nat) (hv : v < 18446744073709551616) : Calls Tryz.prog 147 #[.pointer (some ⟨T, 0, none⟩), .int .i64 c, .int .u64 v] w fun e w' => e = .returned (.tuple #[]) ∧ Thought w T M R B D ws (cSet ws l c 8 v) w' := by
  have hl : Calls Tryz.prog 160 #[.pointer (some ⟨T, 0, none⟩), .int .i64 c, .int .u64 8, .int .u64 v] w _ := cstore_any h c 8 v hv
  go_enter Tryz.func147, Tryz.ntmps147
  go_wp2_with (first | (go_at_call 160; (with_reducible refine hl.mono ?_); rintro e w1 ⟨rfl, ht1⟩))
  go_end0
  exact ⟨rfl, ht1⟩
end
end Go.Proofs.YtcbdbflgfhbikaaGreat
namespace Go.Proofs.YtcbdbflgfhbikaaGreat
open Go.RowKit Go.Shelf
set_option maxRecDepth 100000
attribute [local go_sem] Oper.semAt_some
def StK (n tb : Nat) (p : Value) (A C : World) : Prop := Below n A C ∧ (Boxed A tb 25 p → Boxed C tb 25 p)
theorem StK.refl (n tb : Nat) (p : Value) (A : World) : StK n tb p A A := ⟨Below.refl _ _, id⟩
theorem StK.trans {n tb : Nat} {p : Value} {A C E : World} (h : StK n tb p A C) (k : StK n tb p C E) : StK n tb p A E := ⟨h.1.trans k.1, fun b => k.2 (h.2 b)⟩
theorem StK.put {n tb : Nat} {p : Value} {w0 : World} (hn : n ≤ w0.heap.size) (hb : tb < w0.heap.size) (W : World) (l : Nat) (o o' : Obj) (hl : w0.heap.size ≤ l) (h : W.heap[l]? = some o) (hc : o.isCells = false) (hw : o.isWalk = false) : StK n tb p W (W.putObj l o') :=
  ⟨belowK_b (w := w0) hn W l o o' hl h hc hw, fun b => by
    unfold Boxed at b ⊢
    rw [World.putObj_heap_other (by omega)]
    exact b⟩
theorem StK.grown {n tb : Nat} {p : Value} {A C : World} {row : Option Nat} (hn : n ≤ A.heap.size) (hg : A.grownBy C row) (hr : ∀ r, row = some r → n ≤ r ∧ r ≠ tb) : StK n tb p A C :=
  ⟨(Below.refl n A).grown hg hn (fun k e => (hr k e).1), fun b => b.kept hg (fun e => (hr tb e.symm).2 rfl)⟩
section
variable {w : World} {T M : Nat} {R : Option Nat} {B D : Nat} {ws : List Nat} {l : List (Nat × Nat)}
end
end Go.Proofs.YtcbdbflgfhbikaaGreat
namespace Go.Proofs.YtcbdbflgfhbikaaGreat
open Go.RowKit
set_option maxRecDepth 100000
theorem take_less {L : List Nat} {k y x : Nat} (hk : k < L.length) (hx : L.getD k 0 = x) : (L.take (k + 1)).filter (fun a => decide (a ≠ y)) = (L.take k).filter (fun a => decide (a ≠ y)) ++ if x = y then [] else [x] := by
  have h1 : L.take (k + 1) = L.take k ++ [x] := by
    rw [List.take_add_one, ← hx, List.getD_eq_getElem?_getD, List.getElem?_eq_getElem hk]
    rfl
  rw [h1, List.filter_append]
  congr 1
  by_cases e : x = y
  · rw [if_pos e]; simp [e]
  · rw [if_neg e]; simp [e]
set_option maxHeartbeats 2000000 in
theorem rwithout_any {w : World} {la : Option Addr} {n c : Nat} {xs : List Nat} (h : WordsAt w la xs) (hn : xs.length = n) (hl : n ≤ 1000000) (y : Nat) :
    Calls Tryz.prog 76 #[.slice la n c, .int .u64 y] w fun e w' => ∃ v, e = .returned v ∧ OwnW w' w.heap.size v (xs.filter fun a => decide (a ≠ y)) ∧ w.grownBy w' none := by
  have HN := Lib.hid hn
  have HW := Lib.hid h
  obtain ⟨ys, hys⟩ : ∃ ys, (xs.filter fun a => decide (a ≠ y)) = ys := ⟨_, rfl⟩
  rw [hys]
  have HY := Lib.hid hys
  clear h hys
  go_enter Tryz.func76, Tryz.ntmps76
  go_wp2
  go_loopw [5, 6] (fun v i wr => ∃ k : Nat, k ≤ n ∧ i = .int .i64 k ∧ OwnW wr w.heap.size v ((xs.take k).filter fun a => decide (a ≠ y)) ∧ w.grownBy wr none) (fun _ i _ => n - (intOf i).toNat)
  case atStart => exact ⟨0, Nat.zero_le _, rfl, World.ownsRow_nil _ _ _ _, grown_refl _ _⟩
  case round =>
    obtain ⟨k, hk, rfl, hown, hgr⟩ := hrel
    by_cases h1 : k < n
    · have h1' : (k : Int) < (n : Int) := by omega
      obtain ⟨b, off, rfl, hb, hcs⟩ := (HW.out.later hgr).cells (by rw [HN.out]; omega)
      have c0 := hcs k (by rw [HN.out]; exact h1)
      obtain ⟨x, hx⟩ : ∃ x, xs.getD k 0 = x := ⟨_, rfl⟩
      rw [hx] at c0
      have hst := take_less (y := y) (by rw [HN.out]; exact h1) hx
      have HS := Lib.hid hst
      have hfl : ((xs.take k).filter fun a => decide (a ≠ y)).length ≤ 1000000 := Nat.le_trans (List.length_filter_le _ _) (by rw [List.length_take]; omega)
      have hsz := hgr.size
      have HF := Lib.hid hfl
      have HO := Lib.hid hown
      clear hcs hx hst hfl
      by_cases hxy : x = y
      · subst hxy
        clear hown
        go_wp2
        go_roundw
        case rel => exact ⟨k + 1, by omega, by go_num, by rw [HS.out, if_pos rfl, List.append_nil]; exact HO.out, hgr⟩
        case measure => simp [intOf]; omega
      · have hxy' : ¬ (x : Int) = (y : Int) := by omega
        clear hown
        go_wp2_with (at_builtin; go_must (refine wpList_append_num rfl _ _ rfl w.heap.size _ _ rfl HO.out x rfl (Nat.le_trans HF.out (by decide)) hsz ?_); intro v8 w8 hown8 hg8 hloc8)
        go_roundw
        case rel => exact ⟨k + 1, by omega, by go_num, by rw [HS.out, if_neg hxy]; exact hown8, grown_step hgr hg8 (fun i hi => .inl (World.ownsRow.lt HO.out i hi).1)⟩
        case measure => simp [intOf]; omega
    · obtain rfl : k = n := by omega
      rw [← HN.out, List.take_length, HY.out] at hown
      obtain ⟨va, vn, vc, hv⟩ := wv_form hown
      subst hv
      have h1' : ¬ (k : Int) < (k : Int) := by omega
      go_wp2
      go_ret
      exact ⟨_, rfl, hown, hgr⟩
set_option maxHeartbeats 1000000 in
theorem rfirst_any {w : World} {la : Option Addr} {n c : Nat} {xs : List Nat} (h : WordsAt w la xs) (hn : xs.length = n) (hl : n ≤ 100000) (y : Nat) :
    Calls Tryz.prog 75 #[.slice la n c, .int .u64 y] w fun e w' => ∃ v, e = .returned v ∧ OwnW w' w.heap.size v (y :: xs) ∧ w.grownBy w' none := by
  have hg0 : w.grownBy (w.alloc (.cells #[.int .u64 (y : Nat)] 23)) none := World.grownBy_alloc _ _ _
  have hown0 : OwnW (w.alloc (.cells #[.int .u64 (y : Nat)] 23)) w.heap.size (.slice (some ⟨w.heap.size, 0, none⟩) 1 1) [y] := World.ownsRow_lit (base := w.heap.size) (e := 23) (size := 1) w #[.int .u64 (y : Nat)] 1 (Nat.le_refl _) (by decide) rfl
  have hsz := hg0.size
  have HW := Lib.hid (h.later hg0)
  subst hn
  clear h
  go_enter Tryz.func75, Tryz.ntmps75
  go_wp2_with (at_builtin; go_must (refine wpList_append_words hown0 HW.out (by simp; omega) hsz rfl _ _ rfl rfl rfl ?_); intro v' w1 hown1 hg1)
  obtain ⟨va, vn, vc, hv⟩ := wv_form hown1
  subst hv
  go_ret
  exact ⟨_, rfl, hown1, grown_step hg0 hg1 (fun i hi => .inl (World.ownsRow.lt hown0 i hi).1)⟩
end Go.Proofs.YtcbdbflgfhbikaaGreat
namespace Go.Proofs.YtcbdbflgfhbikaaGreat
open Go.RowKit
set_option maxRecDepth 100000
theorem ckL_iff (f : Nat → Nat) (hd : Nat) (l : List Nat) : ckL f hd l ↔ hd = l.headD 0 ∧ ∀ i, i < l.length → ckAt f l i := by
  unfold ckL
  rw [strungW_at]
  exact Iff.rfl
theorem headD_get (l : List Nat) : l.headD 0 = l.getD 0 0 := by cases l <;> rfl
section
variable {w : World} {base : Nat} {wv pv : Value} {ws : List Nat} {l : List (Nat × Nat)}
end
end Go.Proofs.YtcbdbflgfhbikaaGreat
