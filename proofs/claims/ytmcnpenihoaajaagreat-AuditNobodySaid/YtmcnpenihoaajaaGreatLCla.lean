/-
  Texts of one layer, one behind the other: memory, contracts of the functions, and what follows of them.
  Conditions: as each theorem says.
-/
import Derived.Test.YtmcnpenihoaajaaGreatLSea
import Derived.Test.YtmcnpenihoaajaaGreatLHea
import Derived.StillTailTactics
import Derived.Deep.RegionHeld3
import Derived.Deep.QuietTactic
import Derived.BigQuiet
import Derived.Laws.StructEq
import Derived.Deep.AppendLies
import Derived.Laws.AppendOwnNone
import Derived.Test.YtmcnpenihoaajaaGreatLTxa
import Derived.RangeFuncCalls
import Derived.TacticsInMore
import Derived.OrdersIn
import Derived.Deep.LoopGhost
import Derived.Maps.AppendAt
import Derived.Test.YtmcnpenihoaajaaGreatLTra
import Derived.Test.YtmcnpenihoaajaaGreatLTaa
import Derived.Test.YtmcnpenihoaajaaGreatLPha
import Derived.Test.YtmcnpenihoaajaaGreatLPhb
import Derived.Test.YtmcnpenihoaajaaGreatLWoa
set_option linter.unusedVariables false
set_option linter.unusedSimpArgs false
namespace Go.Proofs.YtmcnpenihoaajaaGreat
def Strung (f : Nat → Nat) : Nat → List Nat → Nat → Prop
  | _, [], _ => True
  | p, x :: r, q => f (x + 24) = p ∧ f (x + 16) = r.headD q ∧ Strung f x r q
theorem Strung.congr {f g : Nat → Nat} {xs : List Nat} {p q : Nat} (h : Strung f p xs q) (hg : ∀ x ∈ xs, g (x + 16) = f (x + 16) ∧ g (x + 24) = f (x + 24)) : Strung g p xs q := by
  induction xs generalizing p with
  | nil => trivial
  | cons x r ih =>
    obtain ⟨h1, h2, h3⟩ := h
    obtain ⟨g1, g2⟩ := hg x (by simp)
    exact ⟨g2.trans h1, g1.trans h2, ih h3 (fun y hy => hg y (by simp [hy]))⟩
structure Grid (U : List Nat) : Prop where
  lo : ∀ x ∈ U, 3776 ≤ x ∧ x % 8 = 0 ∧ x + 48 ≤ 4800
  far : ∀ x ∈ U, ∀ y ∈ U, x ≠ y → x + 48 ≤ y ∨ y + 48 ≤ x
def slotH (c : Nat) : Nat := 72 + 416 * c
theorem slotH_inj {c d : Nat} (h : slotH c = slotH d) : c = d := by unfold slotH at h; omega
theorem slotH_lt {c : Nat} (h : c < 8) : slotH c < 3776 := by unfold slotH; omega
structure Ledg (U : List Nat) (f : Nat → Nat) (L : Nat → List Nat) : Prop where
  on : ∀ c, c < 8 → ∀ x ∈ L c, x ∈ U
  once : ∀ c, c < 8 → (L c).Nodup
  apart : ∀ c d, c < 8 → d < 8 → c ≠ d → ∀ x ∈ L c, x ∉ L d
  head : ∀ c, c < 8 → f (slotH c) = (L c).headD 0
  strung : ∀ c, c < 8 → Strung f 0 (L c) 0
def setL (L : Nat → List Nat) (c : Nat) (xs : List Nat) : Nat → List Nat := fun d => if d = c then xs else L d
theorem setL_same (L : Nat → List Nat) (c : Nat) (xs : List Nat) : setL L c xs c = xs := if_pos rfl
theorem setL_other {L : Nat → List Nat} {c d : Nat} (xs : List Nat) (h : d ≠ c) : setL L c xs d = L d := if_neg h
def linkF (f : Nat → Nat) (c off : Nat) : Nat → Nat := fun x =>
  if x = slotH c then off else if f (slotH c) ≠ 0 ∧ x = f (slotH c) + 24 then off else if x = off + 24 then 0 else if x = off + 16 then f (slotH c) else f x
section
variable {U : List Nat} {f g : Nat → Nat} {L : Nat → List Nat} {c off : Nat}
theorem Ledg.head_on (h : Ledg U f L) (hU : Grid U) (hc : c < 8) (hn : f (slotH c) ≠ 0) : f (slotH c) ∈ U ∧ ∃ r, L c = f (slotH c) :: r := by
  have hh := h.head c hc
  cases hl : L c with
  | nil => rw [hl] at hh; exact absurd hh hn
  | cons x r =>
    rw [hl] at hh
    have e : f (slotH c) = x := hh
    rw [e]
    exact ⟨h.on c hc x (by rw [hl]; simp), r, rfl⟩
theorem Ledg.link (h : Ledg U f L) (hU : Grid U) (hc : c < 8) (ho : off ∈ U) (hn : ∀ d, d < 8 → off ∉ L d) (hg : ∀ x, g x = linkF f c off x) : Ledg U g (setL L c (off :: L c)) := by
  have o1 := hU.lo off ho
  have hs := slotH_lt hc
  have hhd := h.head c hc
  have keep : ∀ x ∈ U, x ≠ off → (f (slotH c) = 0 ∨ x ≠ f (slotH c)) → g (x + 16) = f (x + 16) ∧ g (x + 24) = f (x + 24) := fun x hx hxo hxh => by
    have x1 := hU.lo x hx
    have x2 := hU.far x hx off ho hxo
    rw [hg, hg]
    unfold linkF
    by_cases h0 : f (slotH c) = 0
    · rw [if_neg (by omega), if_neg (fun e => e.1 h0), if_neg (by omega), if_neg (by omega), if_neg (by omega), if_neg (fun e => e.1 h0), if_neg (by omega), if_neg (by omega)]
      exact ⟨rfl, rfl⟩
    · obtain ⟨hU1, _⟩ := h.head_on hU hc h0
      have x3 := hU.far x hx _ hU1 (by rcases hxh with e | e; exact absurd e h0; exact e)
      rw [if_neg (by omega), if_neg (by omega), if_neg (by omega), if_neg (by omega), if_neg (by omega), if_neg (by omega), if_neg (by omega), if_neg (by omega)]
      exact ⟨rfl, rfl⟩
  have hgs : g (slotH c) = off := by rw [hg]; unfold linkF; rw [if_pos rfl]
  have hgd : ∀ d, d < 8 → d ≠ c → g (slotH d) = f (slotH d) := fun d hd hdc => by
    have := slotH_lt hd
    have hne : slotH d ≠ slotH c := fun e => hdc (slotH_inj e)
    rw [hg]
    unfold linkF
    by_cases h0 : f (slotH c) = 0
    · rw [if_neg hne, if_neg (fun e => e.1 h0), if_neg (by omega), if_neg (by omega)]
    · have := hU.lo _ (h.head_on hU hc h0).1
      rw [if_neg hne, if_neg (by omega), if_neg (by omega), if_neg (by omega)]
  refine ⟨fun d hd x hx => ?_, fun d hd => ?_, fun d e hd he hde x hx => ?_, fun d hd => ?_, fun d hd => ?_⟩
  · by_cases e : d = c
    · subst e
      rw [setL_same] at hx
      rcases List.mem_cons.1 hx with rfl | hx
      · exact ho
      · exact h.on d hd x hx
    · rw [setL_other _ e] at hx
      exact h.on d hd x hx
  · by_cases e : d = c
    · subst e
      rw [setL_same]
      exact List.nodup_cons.2 ⟨hn d hd, h.once d hd⟩
    · rw [setL_other _ e]
      exact h.once d hd
  · by_cases e1 : d = c
    · subst e1
      rw [setL_same] at hx
      rw [setL_other _ (fun e => hde e.symm)]
      rcases List.mem_cons.1 hx with rfl | hx
      · exact hn e he
      · exact h.apart d e hd he hde x hx
    · rw [setL_other _ e1] at hx
      by_cases e2 : e = c
      · subst e2
        rw [setL_same]
        intro hm
        rcases List.mem_cons.1 hm with rfl | hm
        · exact hn d hd hx
        · exact h.apart d e hd he hde x hx hm
      · rw [setL_other _ e2]
        exact h.apart d e hd he hde x hx
  · by_cases e : d = c
    · subst e
      rw [setL_same, hgs]; rfl
    · rw [setL_other _ e, hgd d hd e]
      exact h.head d hd
  · by_cases e : d = c
    · subst e
      rw [setL_same]
      have hst := h.strung d hd
      have g24 : g (off + 24) = 0 := by
        rw [hg]; unfold linkF
        by_cases h0 : f (slotH d) = 0
        · rw [if_neg (by omega), if_neg (fun e => e.1 h0), if_pos rfl]
        · obtain ⟨hU1, r, hr⟩ := h.head_on hU hd h0
          have hne : off ≠ f (slotH d) := fun e => hn d hd (by rw [hr, ← e]; simp)
          have := hU.far off ho _ hU1 hne
          rw [if_neg (by omega), if_neg (by omega), if_pos rfl]
      have g16 : g (off + 16) = (L d).headD 0 := by
        rw [← hhd, hg]; unfold linkF
        by_cases h0 : f (slotH d) = 0
        · rw [if_neg (by omega), if_neg (fun e => e.1 h0), if_neg (by omega), if_pos rfl]
        · obtain ⟨hU1, r, hr⟩ := h.head_on hU hd h0
          have hne : off ≠ f (slotH d) := fun e => hn d hd (by rw [hr, ← e]; simp)
          have := hU.far off ho _ hU1 hne
          rw [if_neg (by omega), if_neg (by omega), if_neg (by omega), if_pos rfl]
      refine ⟨g24, g16, ?_⟩
      cases hl : L d with
      | nil => trivial
      | cons x r =>
        rw [hl] at hst hhd
        have ex : f (slotH d) = x := hhd
        have hxU := h.on d hd x (by rw [hl]; simp)
        have x1 := hU.lo x hxU
        have hxo : x ≠ off := fun e => hn d hd (by rw [hl, ← e]; simp)
        have x2 := hU.far x hxU off ho hxo
        obtain ⟨s1, s2, s3⟩ := hst
        have hnd := h.once d hd
        rw [hl] at hnd
        refine ⟨?_, ?_, s3.congr (fun y hy => ?_)⟩
        · rw [hg]; unfold linkF; rw [ex, if_neg (by omega), if_pos ⟨by omega, rfl⟩]
        · rw [hg]; unfold linkF; rw [ex, if_neg (by omega), if_neg (by omega), if_neg (by omega), if_neg (by omega)]; exact s2
        · have hyU := h.on d hd y (by rw [hl]; simp [hy])
          refine keep y hyU (fun e => hn d hd (by rw [hl, ← e]; simp [hy])) (.inr fun e => ?_)
          rw [ex] at e
          subst e
          exact (List.nodup_cons.1 hnd).1 hy
    · rw [setL_other _ e]
      refine (h.strung d hd).congr (fun x hx => keep x (h.on d hd x hx) (fun e2 => hn d hd (e2 ▸ hx)) ?_)
      by_cases h0 : f (slotH c) = 0
      · exact .inl h0
      · obtain ⟨_, r, hr⟩ := h.head_on hU hc h0
        exact .inr fun e2 => h.apart d c hd hc e x hx (by rw [hr, ← e2]; simp)
theorem Ledg.none (hf : ∀ c, c < 8 → f (slotH c) = 0) : Ledg U f fun _ => [] where
  on := fun c hc x hx => by simp at hx
  once := fun c hc => List.nodup_nil
  apart := fun c d hc hd hcd x hx => by simp at hx
  head := hf
  strung := fun c hc => trivial
theorem Ledg.same (h : Ledg U f L) (hg : ∀ x, g x = f x) : Ledg U g L := by
  have : g = f := funext hg
  rw [this]; exact h
end
def StrungW (f : Nat → Nat) : Nat → List Nat → Nat → Prop
  | _, [], _ => True
  | p, x :: r, q => (f ((x + 16) % 18446744073709551616) = r.headD q ∧ f ((x + 24) % 18446744073709551616) = p) ∧ StrungW f x r q
instance decStrungW (f : Nat → Nat) : ∀ (p : Nat) (l : List Nat) (q : Nat), Decidable (StrungW f p l q)
  | _, [], _ => isTrue trivial
  | p, x :: r, q => by
    have := decStrungW f x r q
    unfold StrungW
    infer_instance
def ckAt (f : Nat → Nat) (l : List Nat) (i : Nat) : Prop :=
  f ((l.getD i 0 + 16) % 18446744073709551616) = l.getD (i + 1) 0 ∧ f ((l.getD i 0 + 24) % 18446744073709551616) = if i = 0 then 0 else l.getD (i - 1) 0
theorem strungW_at {f : Nat → Nat} : ∀ {l : List Nat} {p : Nat}, StrungW f p l 0 ↔ ∀ i, i < l.length → f ((l.getD i 0 + 16) % 18446744073709551616) = l.getD (i + 1) 0 ∧ f ((l.getD i 0 + 24) % 18446744073709551616) = if i = 0 then p else l.getD (i - 1) 0
  | [], p => ⟨fun _ i hi => by simp at hi, fun _ => trivial⟩
  | x :: r, p => by
    show (_ ∧ _) ∧ _ ↔ _
    rw [strungW_at (l := r) (p := x)]
    constructor
    · rintro ⟨⟨h1, h2⟩, h3⟩ i hi
      cases i with
      | zero =>
        refine ⟨?_, by simpa using h2⟩
        rw [show (x :: r).getD 0 0 = x from rfl, h1]
        cases r <;> rfl
      | succ j =>
        have := h3 j (by simpa using hi)
        refine ⟨by simpa using this.1, ?_⟩
        rw [show (x :: r).getD (j + 1) 0 = r.getD j 0 from rfl, this.2]
        cases j with
        | zero => rfl
        | succ m => rfl
    · intro h
      have h0 := h 0 (by simp)
      refine ⟨⟨?_, by simpa using h0.2⟩, fun j hj => ?_⟩
      · have := h0.1
        rw [show (x :: r).getD 0 0 = x from rfl] at this
        rw [this]
        cases r <;> rfl
      · have := h (j + 1) (by simpa using hj)
        rw [show (x :: r).getD (j + 1) 0 = r.getD j 0 from rfl] at this
        refine ⟨by simpa using this.1, ?_⟩
        rw [this.2, if_neg (by omega)]
        cases j with
        | zero => rfl
        | succ m => rfl
def ckL (f : Nat → Nat) (hd : Nat) (l : List Nat) : Prop := hd = l.headD 0 ∧ StrungW f 0 l 0
instance (f : Nat → Nat) (hd : Nat) (l : List Nat) : Decidable (ckL f hd l) := by unfold ckL; infer_instance
end Go.Proofs.YtmcnpenihoaajaaGreat
namespace Go.Proofs.YtmcnpenihoaajaaGreat
open Go.RowKit
set_option maxRecDepth 100000
def thereP (c : Int) : Prop := 0 ≤ c ∧ c < 8
instance (c : Int) : Decidable (thereP c) := by unfold thereP; infer_instance
def slotP (c : Int) (q : Nat) : Prop := thereP c ∧ q % 8 = 0 ∧ q < 416
instance (c : Int) (q : Nat) : Decidable (slotP c q) := by unfold slotP; infer_instance
def slotN (c : Int) (q : Nat) : Nat := 64 + 416 * c.toNat + q
def cGet (ws : List Nat) (l : List (Nat × Nat)) (c : Int) (q : Nat) : Nat := if slotP c q then txSee ws l (slotN c q) else 0
def wordN (c : Int) (q : Nat) : Nat := if slotP c q then slotN c q else 0
theorem slot_lt {c : Int} {q : Nat} (h : slotP c q) : slotN c q < 3776 := by unfold slotP thereP at h; unfold slotN; omega
theorem there_any (c : Int) (w : World) : Calls Tryz.prog 215 #[.int .i64 c] w fun e w' => e = .returned (.bool (decide (thereP c))) ∧ w = w' := by
  by_cases h0 : 0 ≤ c
  · rw [show decide (thereP c) = decide (c < 8) by rw [decide_eq_decide]; unfold thereP; omega]
    go_enter Tryz.func215, Tryz.ntmps215
    go_wp2
    go_ret
    exact ⟨rfl, rfl⟩
  · rw [decide_eq_false (show ¬ thereP c by unfold thereP; omega)]
    go_enter Tryz.func215, Tryz.ntmps215
    go_wp2
    go_ret
    exact ⟨rfl, rfl⟩
set_option maxHeartbeats 1000000 in
theorem cword_any (c : Int) (q : Nat) (w : World) : Calls Tryz.prog 170 #[.int .i64 c, .int .u64 q] w fun e w' => e = .returned (.tuple #[.int .u64 (wordN c q : Nat), .bool (decide (slotP c q))]) ∧ w = w' := by
  have ht := there_any c w
  unfold wordN
  by_cases hc : thereP c
  · rw [decide_eq_true hc] at ht
    by_cases h8 : (q : Int) % 8 = 0
    · by_cases hq : (q : Int) < 416
      · have hs : slotP c q := ⟨hc, by omega, by omega⟩
        rw [if_pos hs, decide_eq_true hs]
        obtain ⟨k, rfl⟩ := Int.eq_ofNat_of_zero_le hc.1
        have hk : k < 8 := by have := hc.2; omega
        have e1 : IntKind.u64.wrap (k : Int) = (k : Nat) := by rw [IntKind.wrap_u64]; omega
        have e2 : IntKind.u64.wrap ((k : Int) * 416) = (416 * k : Nat) := by rw [IntKind.wrap_u64]; omega
        have e3 : IntKind.u64.wrap (64 + ((416 * k : Nat) : Int)) = (64 + 416 * k : Nat) := by rw [IntKind.wrap_u64]; omega
        have e4 : IntKind.u64.wrap (((64 + 416 * k : Nat) : Int) + (q : Int)) = (slotN (k : Int) q : Nat) := by rw [IntKind.wrap_u64]; unfold slotN; simp only [Int.toNat_natCast]; omega
        go_enter Tryz.func170, Tryz.ntmps170
        go_wp2_with (go_at_call 215; (with_reducible refine ht.mono ?_); rintro e w1 ⟨rfl, rfl⟩)
        refine bodyPost_ret (v := .tuple #[.int .u64 (slotN (k : Int) q : Nat), .bool true]) (by simp [results, Tryz.results170, go_sem, slotN]) rfl ⟨rfl, rfl⟩
      · have hs : ¬ slotP c q := fun h => by have := h.2.2; omega
        rw [if_neg hs, decide_eq_false hs]
        go_enter Tryz.func170, Tryz.ntmps170
        go_wp2_with (go_at_call 215; (with_reducible refine ht.mono ?_); rintro e w1 ⟨rfl, rfl⟩)
        refine bodyPost_ret (v := .tuple #[.int .u64 (0 : Nat), .bool false]) (by simp [results, Tryz.results170, go_sem]) rfl ⟨rfl, rfl⟩
    · have hs : ¬ slotP c q := fun h => by have := h.2.1; omega
      rw [if_neg hs, decide_eq_false hs]
      go_enter Tryz.func170, Tryz.ntmps170
      go_wp2_with (go_at_call 215; (with_reducible refine ht.mono ?_); rintro e w1 ⟨rfl, rfl⟩)
      refine bodyPost_ret (v := .tuple #[.int .u64 (0 : Nat), .bool false]) (by simp [results, Tryz.results170, go_sem]) rfl ⟨rfl, rfl⟩
  · rw [decide_eq_false hc] at ht
    have hs : ¬ slotP c q := fun h => hc h.1
    rw [if_neg hs, decide_eq_false hs]
    go_enter Tryz.func170, Tryz.ntmps170
    go_wp2_with (go_at_call 215; (with_reducible refine ht.mono ?_); rintro e w1 ⟨rfl, rfl⟩)
    refine bodyPost_ret (v := .tuple #[.int .u64 (0 : Nat), .bool false]) (by simp [results, Tryz.results170, go_sem]) rfl ⟨rfl, rfl⟩
section
variable {w : World} {T M : Nat} {R : Option Nat} {B D : Nat} {ws : List Nat} {l : List (Nat × Nat)}
set_option maxHeartbeats 1000000 in
theorem cload_any (h : Thinks w T M R B D ws l) (c : Int) (q : Nat) : Calls Tryz.prog 129 #[.pointer (some ⟨T, 0, none⟩), .int .i64 c, .int .u64 q] w fun e w' => e = .returned (.int .u64 (cGet ws l c q : Nat)) ∧ w.grownBy w' none := by
  have hw := cword_any c q w
  unfold wordN at hw
  unfold cGet
  by_cases hs : slotP c q
  · rw [decide_eq_true hs, if_pos hs] at hw
    have hl := txload_any h (slotN c q) (by have := slot_lt hs; omega)
    rw [if_pos hs]
    obtain ⟨n, hn⟩ : ∃ n, slotN c q = n := ⟨_, rfl⟩
    rw [hn] at hw hl ⊢
    go_enter Tryz.func129, Tryz.ntmps129
    go_wp2_with (first | (go_at_call 170; (with_reducible refine hw.mono ?_); rintro e w1 ⟨rfl, rfl⟩) | (go_at_call 66; (with_reducible refine hl.mono ?_); rintro e w2 ⟨rfl, hg2⟩))
    go_ret
    exact ⟨rfl, hg2⟩
  · rw [decide_eq_false hs, if_neg hs] at hw
    rw [if_neg hs]
    go_enter Tryz.func129, Tryz.ntmps129
    go_wp2_with (first | (go_at_call 170; (with_reducible refine hw.mono ?_); rintro e w1 ⟨rfl, rfl⟩))
    go_ret
    exact ⟨rfl, grown_refl _ _⟩
theorem cstate_any (h : Thinks w T M R B D ws l) (c : Int) : Calls Tryz.prog 88 #[.pointer (some ⟨T, 0, none⟩), .int .i64 c] w fun e w' => e = .returned (.int .u64 (cGet ws l c 0 : Nat)) ∧ w.grownBy w' none := by
  have hl : Calls Tryz.prog 129 #[.pointer (some ⟨T, 0, none⟩), .int .i64 c, .int .u64 0] w _ := cload_any h c 0
  go_enter Tryz.func88, Tryz.ntmps88
  go_wp2_with (first | (go_at_call 129; (with_reducible refine hl.mono ?_); rintro e w1 ⟨rfl, hg1⟩))
  go_ret
  exact ⟨rfl, hg1⟩
theorem chead_any (h : Thinks w T M R B D ws l) (c : Int) : Calls Tryz.prog 168 #[.pointer (some ⟨T, 0, none⟩), .int .i64 c] w fun e w' => e = .returned (.int .u64 (cGet ws l c 8 : Nat)) ∧ w.grownBy w' none := by
  have hl : Calls Tryz.prog 129 #[.pointer (some ⟨T, 0, none⟩), .int .i64 c, .int .u64 8] w _ := cload_any h c 8
  go_enter Tryz.func168, Tryz.ntmps168
  go_wp2_with (first | (go_at_call 129; (with_reducible refine hl.mono ?_); rintro e w1 ⟨rfl, hg1⟩))
  go_ret
  exact ⟨rfl, hg1⟩
end
end Go.Proofs.YtmcnpenihoaajaaGreat
namespace Go.Proofs.YtmcnpenihoaajaaGreat
open Go.RowKit Go.Shelf
set_option maxRecDepth 100000
attribute [local go_sem] Oper.semAt_some
theorem info_int : (Tryz.prog.info? 3).map (fun i => (i.zero, i.size, i.bytes)) = some (some (.int .i64 0), 1, 8) := by kernel_rfl
def cellsI (l : List Nat) : List Value := l.map fun x => .int .i64 (x : Nat)
def OwnI (w : World) (base : Nat) (v : Value) (xs : List Nat) : Prop := w.ownsRow base 3 1 v xs.length (cellsI xs)
theorem OwnI.later {w w' : World} {base : Nat} {v : Value} {xs : List Nat} (h : OwnI w base v xs) (hg : w.grownBy w' none) : OwnI w' base v xs := own_kept h hg
theorem OwnI.mono {w : World} {base base' : Nat} {v : Value} {xs : List Nat} (h : OwnI w base v xs) (hb : base' ≤ base) : OwnI w base' v xs := World.ownsRow.mono h hb
theorem OwnI.at_ {w : World} {base g c : Nat} {ws : List Nat} (h : OwnI w base (.slice (some ⟨g, 0, none⟩) ws.length c) ws) (j : Nat) (hj : j < ws.length) : w.cell? ⟨g, j, none⟩ = some (.int .i64 (ws.getD j 0 : Nat)) := by
  have := World.ownsRow.cellAt h j (by omega)
  rw [this]
  simp [cellsI, List.getElem?_eq_getElem hj]
theorem OwnI.addr {w : World} {base : Nat} {v : Value} {ws : List Nat} (h : OwnI w base v ws) : ∃ a c g, v = .slice a ws.length c ∧ (0 < ws.length → a = some ⟨g, 0, none⟩) ∧ ∀ w', OwnI w' base v ws → ∀ j, j < ws.length → w'.cell? ⟨g, j, none⟩ = some (.int .i64 (ws.getD j 0 : Nat)) := by
  rcases h.2 with ⟨h1, h2⟩ | ⟨g, cap, cur, hv, _⟩
  · exact ⟨none, 0, 0, by rw [h1, h2], fun h => by omega, fun w' _ j hj => by omega⟩
  · exact ⟨_, cap, g, hv, fun _ => rfl, fun w' h' j hj => by rw [hv] at h'; exact OwnI.at_ h' j hj⟩
theorem iv_form {w : World} {base : Nat} {v : Value} {xs : List Nat} (h : OwnI w base v xs) : ∃ a n c, v = .slice a n c := by
  obtain ⟨a, c, g, h, _⟩ := h.addr
  exact ⟨a, _, c, h⟩
theorem OwnI.snoc {w : World} {base : Nat} {v : Value} {xs : List Nat} {y : Nat} (h : w.ownsRow base 3 1 v (xs.length + 1) (cellsI xs ++ [.int .i64 (y : Nat)])) : OwnI w base v (xs ++ [y]) := by
  unfold OwnI
  have e1 : cellsI (xs ++ [y]) = cellsI xs ++ [.int .i64 (y : Nat)] := by simp [cellsI]
  rw [e1, List.length_append]
  exact h
def StK (n tb : Nat) (p : Value) (A C : World) : Prop := Below n A C ∧ (Boxed A tb 66 p → Boxed C tb 66 p)
theorem StK.refl (n tb : Nat) (p : Value) (A : World) : StK n tb p A A := ⟨Below.refl _ _, id⟩
theorem StK.trans {n tb : Nat} {p : Value} {A C E : World} (h : StK n tb p A C) (k : StK n tb p C E) : StK n tb p A E := ⟨h.1.trans k.1, fun b => k.2 (h.2 b)⟩
theorem StK.put {n tb : Nat} {p : Value} {w0 : World} (hn : n ≤ w0.heap.size) (hb : tb < w0.heap.size) (W : World) (l : Nat) (o o' : Obj) (hl : w0.heap.size ≤ l) (h : W.heap[l]? = some o) (hc : o.isCells = false) (hw : o.isWalk = false) : StK n tb p W (W.putObj l o') :=
  ⟨belowK_b (w := w0) hn W l o o' hl h hc hw, fun b => by
    unfold Boxed at b ⊢
    rw [World.putObj_heap_other (by omega)]
    exact b⟩
theorem StK.grown {n tb : Nat} {p : Value} {A C : World} {row : Option Nat} (hn : n ≤ A.heap.size) (hg : A.grownBy C row) (hr : ∀ r, row = some r → n ≤ r ∧ r ≠ tb) : StK n tb p A C :=
  ⟨(Below.refl n A).grown hg hn (fun k e => (hr k e).1), fun b => b.kept hg (fun e => (hr tb e.symm).2 rfl)⟩
theorem cstates_any (p : Option Addr) (w : World) : Calls Tryz.prog 72 #[.pointer p] w fun e w' => e = .returned (.func (.func 114) #[] #[.pointer (some ⟨w.heap.size, 0, none⟩)]) ∧ w.alloc (.cells #[.pointer p] 66) = w' := by
  go_enter Tryz.func72, Tryz.ntmps72
  go_wp2
  go_ret
  exact ⟨rfl, rfl⟩
set_option maxHeartbeats 1000000 in
theorem cstates_stops {w w0 : World} {tb : Nat} {p : Option Addr} {st : Nat → Nat} (hst : ∀ V : World, w.grownBy V none → ∀ c : Nat, c < 8 → Calls Tryz.prog 88 #[.pointer p, .int .i64 c] V fun e V' => e = .returned (.int .u64 (st c : Nat)) ∧ V.grownBy V' none)
    (hw0 : Below w.heap.size w w0) (hbx : Boxed w0 tb 66 (.pointer p)) :
    SeqStopsK Fence.wide 5 Tryz.prog 114 #[.pointer (some ⟨tb, 0, none⟩)] (fun x : Nat => #[.int .i64 (x : Nat), .int .u64 (st x : Nat)]) (StK w.heap.size tb (.pointer p)) (fun ys => ys = List.range 8) (fun _ => True) 8 w0 := by
  intro yl J Jx W hW hJ hJx hY h0
  show CallsIn Fence.wide 5 Tryz.prog 114 #[.func (.yield yl) #[] #[], .pointer (some ⟨tb, 0, none⟩)] W _
  have hbW : Boxed W tb 66 (.pointer p) := (hW.block tb hbx.lt).trans hbx
  have hBW : Below w.heap.size w W := hw0.grown (below_grown hW) hw0.size (fun k e => by cases e)
  have HJ := Lib.hid hJ
  have HY := Lib.hid hY
  have hsz := hBW.size
  clear hY hJ hJx
  refine callsIn_of_wp Tryz.func114 rfl trivial ?_ rfl
  simp only [Tryz.ntmps114, List.size_toArray, List.length_cons, List.length_nil, Nat.reduceAdd, Nat.reduceSub, Array.replicate_succ, Array.replicate_zero, List.push_toArray, List.append_toArray, List.nil_append, List.cons_append]
  gi_wp2
  gi_loopw [4] (fun i wr => ∃ k : Nat, k ≤ 8 ∧ i = .int .i64 k ∧ J (List.range k) wr ∧ Below w.heap.size w wr ∧ W.heap.size ≤ wr.heap.size ∧ Boxed wr tb 66 (.pointer p)) (fun i _ => 8 - (intOf i).toNat)
  case atStart => exact ⟨0, Nat.zero_le _, rfl, h0, hBW, Nat.le_refl _, hbW⟩
  case round =>
    obtain ⟨k, hk, rfl, hJk, hB, hsW, hb⟩ := hrel
    clear h0
    by_cases h1 : k < 8
    · have hs := (callsIn_wide (n := 4)).2 (hst wr (below_grown hB) k h1)
      have cb := hb.cell
      have HJk := Lib.hid hJk
      clear hJk
      gi_wp2_with (refine ⟨trivial, ?_⟩; gi_at_call 88; (with_reducible refine hs.mono ?_); rintro e w2 ⟨rfl, hg2⟩; have hJ2 := HJ.out _ _ _ _ HJk.out hg2 (fun r e => by cases e); obtain ⟨fn, tmps, assign, body, hyy, hR⟩ := HY.out (List.range k) k w2 hJ2 (by simpa using h1); rw [← List.range_succ] at hR)
      refine hR.mono ?_
      rintro e W3 (⟨rfl, hJ3, hk3⟩ | ⟨rfl, hJx3⟩)
      · have hb3 : Boxed W3 tb 66 (.pointer p) := hk3.2 (hb.kept hg2 (by simp))
        have hB3 : Below w.heap.size w W3 := (hB.grown hg2 hB.size (fun k e => by cases e)).trans hk3.1
        have hs3 := Nat.le_trans hsW (Nat.le_trans hg2.size hk3.1.size)
        gi_wp2
        go_roundw
        case rel => exact ⟨k + 1, by omega, by go_num, hJ3, hB3, hs3, hb3⟩
        case measure => simp [intOf]; omega
      · gi_wp2
        refine bodyPost_ret (results_none rfl _ _ _) rfl ?_
        exact ⟨⟨_, rfl⟩, .inr ⟨_, trivial, hJx3⟩⟩
    · obtain rfl : k = 8 := by omega
      gi_wp2
      go_end0
      exact ⟨⟨_, rfl⟩, .inl ⟨_, rfl, hJk⟩⟩
def ofState (st : Nat → Nat) (s : Nat) : List Nat := (List.range 8).filter fun x => decide (st x = s)
structure AllI (w : World) (st : Nat → Nat) (s : Nat) (pre : List Nat) (W : World) : Prop where
  row : ∃ v, Boxed W (w.heap.size + 1) 39 v ∧ OwnI W w.heap.size v (pre.filter fun x => decide (st x = s))
  key : Boxed W w.heap.size 22 (.int .u64 (s : Nat))
  below : Below w.heap.size w W
  big : w.heap.size + 3 ≤ W.heap.size
theorem own_int {base : Nat} {A : World} {v : Value} {xs : List Nat} {g : Nat} (h : OwnI A base v xs) (hg : v.ownBlock = some g) : base ≤ g ∧ g < A.heap.size ∧ ∃ c fr, A.heap[g]? = some (.cells c 3 fr) := by
  obtain ⟨_, cur, hb⟩ := row_block h hg
  exact ⟨(World.ownsRow.lt h g hg).1, (World.ownsRow.lt h g hg).2, cur, _, hb⟩
theorem AllI.own (w : World) (n : Nat) (st : Nat → Nat) (s : Nat) (hn : w.heap.size ≤ n) : OwnFrom n (AllI w st s) := fun pre X Y row hs hg hr => by
  have hc : ∀ {b : Nat} {c : Array Value} {t : TypeId} {fr : Nat × Nat}, X.heap[b]? = some (.cells c t fr) → row ≠ some b := fun h e => by
    obtain ⟨_, o, ho, hc⟩ := hr _ e
    rw [h] at ho; cases ho; cases hc
  obtain ⟨v, h1, h2⟩ := hs.row
  refine ⟨⟨v, h1.kept hg (fun e => hc h1 e.symm), ?_⟩, hs.key.kept hg (fun e => hc hs.key e.symm), hs.below.grown hg hs.below.size (fun k e => Nat.le_trans hn (hr k e).1), Nat.le_trans hs.big hg.size⟩
  refine World.ownsRow.kept h2 hg ?_
  by_cases e : v.ownBlock = none
  · exact .inl e
  · refine .inr fun e2 => ?_
    obtain ⟨g, hg2⟩ := Option.ne_none_iff_exists'.1 e
    obtain ⟨_, _, c, fr, h3⟩ := own_int h2 hg2
    exact hc h3 (by rw [← e2, hg2])
set_option maxHeartbeats 2000000 in
theorem call_in {w : World} {p : Option Addr} {st : Nat → Nat} (hst : ∀ V : World, w.grownBy V none → ∀ c : Nat, c < 8 → Calls Tryz.prog 88 #[.pointer p, .int .i64 c] V fun e V' => e = .returned (.int .u64 (st c : Nat)) ∧ V.grownBy V' none) (s : Nat) :
    CallsIn Fence.wide 6 Tryz.prog 36 #[.pointer p, .int .u64 s] w fun e w' => ∃ v, e = .returned v ∧ OwnI w' w.heap.size v (ofState st s) ∧ w.grownBy w' none := by
  obtain ⟨i0, hi, hz0, hz1, hz2⟩ := info_parts info_int
  have hbh : ∀ V : World, CallsIn Fence.wide 5 Tryz.prog 72 #[.pointer p] V _ := fun V => (callsIn_wide (n := 5)).2 (cstates_any p V)
  refine callsIn_of_wp_marks Tryz.func36 rfl trivial ?_ rfl
  simp only [Tryz.ntmps36, List.size_toArray, List.length_cons, List.length_nil, Nat.reduceAdd, Nat.reduceSub, Array.replicate_succ, Array.replicate_zero, List.push_toArray, List.append_toArray, List.nil_append, List.cons_append]
  gi_wp2_with (first | (refine ⟨trivial, ?_⟩; gi_at_call 72; (with_reducible refine (hbh _).mono ?_); rintro e w2 ⟨rfl, rfl⟩))
  have b0 : Boxed (w.alloc (.cells #[.int .u64 s] 22)) w.heap.size 22 (.int .u64 s) := Boxed.new _ _ _
  have b1 : Boxed ((w.alloc (.cells #[.int .u64 s] 22)).alloc (.cells #[.slice none 0 0] 39)) (w.heap.size + 1) 39 (.slice none 0 0) := by
    have := Boxed.new (w.alloc (.cells #[.int .u64 s] 22)) 39 (.slice none 0 0)
    rwa [World.size_alloc] at this
  have b2 : Boxed (((w.alloc (.cells #[.int .u64 s] 22)).alloc (.cells #[.slice none 0 0] 39)).alloc (.cells #[.pointer p] 66)) (w.heap.size + 2) 66 (.pointer p) := by
    have := Boxed.new ((w.alloc (.cells #[.int .u64 s] 22)).alloc (.cells #[.slice none 0 0] 39)) 66 (.pointer p)
    rwa [World.size_alloc, World.size_alloc] at this
  have hgA : w.grownBy (((w.alloc (.cells #[.int .u64 s] 22)).alloc (.cells #[.slice none 0 0] 39)).alloc (.cells #[.pointer p] 66)) none := grown_trans (World.grownBy_alloc _ _ _) (grown_trans (World.grownBy_alloc _ _ _) (World.grownBy_alloc _ _ _))
  have hszA : (((w.alloc (.cells #[.int .u64 s] 22)).alloc (.cells #[.slice none 0 0] 39)).alloc (.cells #[.pointer p] 66)).heap.size = w.heap.size + 3 := by simp
  replace b1 := b1.alloc (.cells #[.pointer p] 66)
  replace b0 := (b0.alloc (.cells #[.slice none 0 0] 39)).alloc (.cells #[.pointer p] 66)
  obtain ⟨W0, hW0⟩ : ∃ W0, ((w.alloc (.cells #[.int .u64 s] 22)).alloc (.cells #[.slice none 0 0] 39)).alloc (.cells #[.pointer p] 66) = W0 := ⟨_, rfl⟩
  rw [hW0] at hgA b0 b1 b2 hszA ⊢
  have hseq := cstates_stops hst (grown_below hgA) b2
  clear hW0 hbh hst
  refine wpIn_rangeFunc_ownH rfl (by decide) (gf := 114) (lb := #[.pointer (some ⟨w.heap.size + 2, 0, none⟩)]) rfl trivial (enters_of Tryz.func114 (by kernel_rfl) rfl) hseq (fun h k => StK.trans h k) (fun W l o o' hl h hc hw => StK.put hgA.size (by omega) W l o o' hl h hc hw) (Below.refl _ _) (fun _ => rfl)
    (AllI w st s) (fun _ _ _ => False) (AllI.own w _ st s hgA.size) (fun _ _ _ _ _ hs _ _ => hs)
    ⟨⟨_, b1, World.ownsRow_nil _ _ _ _⟩, b0, grown_below hgA, by omega⟩
    (fun x a' W => a' = { tmps := #[.pointer p, .int .u64 s, undef, .pointer (some ⟨w.heap.size, 0, none⟩), .slice none 0 0, .pointer (some ⟨w.heap.size + 1, 0, none⟩), .int .i64 (x : Nat), .int .u64 (st x : Nat), .pointer p, .func (.func 114) #[] #[.pointer (some ⟨w.heap.size + 2, 0, none⟩)], .int .i64 (x : Nat), .int .u64 (st x : Nat), undef, undef, undef, undef, undef, undef, undef, undef], defers := [] })
    (fun x a' _ X Y row hs hg hr => hs)
    ?assign ?body ?done ?stop
  case assign =>
    rintro yl pre x W K hI hK
    gi_wp2
    exact hK _ _ ((KeepsOthers.refl _).from _) (StK.refl _ _ _ _) hI rfl
  case body =>
    rintro yl pre x a' W hl ⟨r, hr⟩ hI rfl hlt
    obtain ⟨v, hv, hrow⟩ := hI.row
    have hc := hv.cell
    have hck := hI.key.cell
    have hB := hI.below
    have hbig := hI.big
    by_cases hx : st x = s
    · have hx' : (st x : Int) = (s : Int) := by omega
      have hpl : (pre.filter fun x => decide (st x = s)).length ≤ 8 := Nat.le_trans (List.length_filter_le _ _) (by omega)
      have hfil : (pre ++ [x]).filter (fun x => decide (st x = s)) = pre.filter (fun x => decide (st x = s)) ++ [x] := by simp [List.filter_append, hx]
      have HF := Lib.hid hfil
      have HI := Lib.hid hI
      clear hfil hI
      gi_wp2_with (gi_at_builtin; go_must (refine wpListIn_append_own _ rfl _ _ 39 rfl w.heap.size 3 i0 (.int .i64 0) 1 8 Tryz.underlying39 hi hz0 hz1 hz2 rfl (by decide) _ _ _ rfl (World.ownsRow.alloc hrow _) ⟨W.heap.size, 0, none⟩ 1 1 [.int .i64 (x : Nat)] rfl rfl (cell_one_new _ _ _) (by simp [Value.oneCell']) (by unfold maxLen; omega) (by omega) (by have := hB.size; simp; omega) ?_); intro v' w1 hown' hgrow _; obtain ⟨g', cap', rfl⟩ := ownsRow_succ hown'; obtain ⟨hv1, hv2, hr2, hk2, hb2⟩ := hv.appended (by decide) hrow hB.size (Nat.le_succ _) hown' hgrow; have hc1 := hv1.cell; have hf1 := hv1.frozen)
      have hgw := World.grownBy_alloc W (.cells #[.int .i64 (x : Nat)] 3) none
      have hne : ∀ {b : Nat} {t : TypeId} {u : Value}, Boxed W b t u → t ≠ 3 → some b ≠ v.ownBlock := fun hb ht e => by
        obtain ⟨_, _, c, fr, h3⟩ := own_int hrow e.symm
        rw [show W.heap[_]? = _ from hb] at h3
        injection h3 with h3
        injection h3 with _ h3 _
        exact ht h3
      have hks : ∀ {b : Nat} {t : TypeId} {u : Value}, Boxed W b t u → t ≠ 3 → b ≠ w.heap.size + 1 → Boxed (w1.setCell ⟨w.heap.size + 1, 0, none⟩ (.slice (some ⟨g', 0, none⟩) ((pre.filter fun x => decide (st x = s)).length + 1) cap')) b t u := fun hb ht hn =>
        ((hb.kept hgw (by simp)).kept hgrow (hne hb ht)).kept (grown_set _ _ _ _) (fun e => hn (by injection e))
      refine ⟨hk2.from _, ⟨hb2, fun b => hks b (by decide) (by omega)⟩, ⟨⟨_, hv2, ?_⟩, hks HI.out.key (by decide) (by omega), hB.trans hb2, Nat.le_trans hbig hb2.size⟩⟩
      rw [HF.out]
      exact OwnI.snoc hr2
    · have hx' : ¬ (st x : Int) = (s : Int) := by omega
      have hfil : (pre ++ [x]).filter (fun x => decide (st x = s)) = pre.filter (fun x => decide (st x = s)) := by simp [List.filter_append, hx]
      gi_wp2
      exact ⟨(KeepsOthers.refl _).from _, StK.refl _ _ _ _, ⟨⟨v, hv, by rw [hfil]; exact hrow⟩, hI.key, hB, hbig⟩⟩
  case done =>
    rintro D2 ys W hD rfl hI hK
    obtain ⟨v, hv, hrow⟩ := hI.row
    have hc := hv.cell
    have hB := hI.below
    replace hrow : OwnI W w.heap.size v (ofState st s) := hrow
    obtain ⟨va, vn, vc, hvv⟩ := iv_form hrow
    subst hvv
    gi_wp2
    refine ⟨by simp, .inl ⟨_, _, rfl, run_takeDeferred hK, ?_⟩⟩
    exact ⟨.slice va vn vc, by simp [results, Tryz.results36, go_sem], .slice va vn vc, rfl, ownsRow_putObj hrow _ hK rfl, below_grown (hB.trans (belowK_b (w := w) (Nat.le_refl _) W D2 _ _ (by have := hgA.size; omega) hK rfl rfl))⟩
  case stop =>
    rintro D c pre W _ _ h _
    exact h.elim
section
variable {w : World} {T M : Nat} {R : Option Nat} {B D : Nat} {ws : List Nat} {l : List (Nat × Nat)}
theorem call_any (h : Thinks w T M R B D ws l) (s : Nat) :
    Calls Tryz.prog 36 #[.pointer (some ⟨T, 0, none⟩), .int .u64 s] w fun e w' => ∃ v, e = .returned v ∧ OwnI w' w.heap.size v (ofState (fun x => cGet ws l x 0) s) ∧ w.grownBy w' none :=
  callsIn_wide.1 (call_in (fun V hg c _ => cstate_any (h.later hg) c) s)
end
end Go.Proofs.YtmcnpenihoaajaaGreat
namespace Go.Proofs.YtmcnpenihoaajaaGreat
open Go.RowKit
set_option maxRecDepth 100000
theorem wpList_append_int {w2 : World} {ops : Array Oper} {rest : List Oper} {o : Oper} {a : Act} {Q : Exit → Act → World → Prop} (hgd : o.guard = none) (s x : Operand)
    (ho : o.op = .call { callee := .builtin .append, args := #[s, x], argTypes := #[39, 39] })
    (base : Nat) (v : Value) (xs : List Nat) (hs : a.eval s = v) (hown : OwnI w2 base v xs) (y : Nat)
    (hx : a.eval x = .slice (some ⟨w2.heap.size, 0, none⟩) 1 1) (hn : xs.length ≤ 10000000) (hbase : base ≤ w2.heap.size)
    (h : ∀ v' w', OwnI w' base v' (xs ++ [y]) → w2.grownBy w' v.ownBlock → wpList Tryz.prog ops Q rest (a.put o.dst v') w') :
    wpList Tryz.prog ops Q (o :: rest) a (w2.alloc (.cells #[.int .i64 (y : Nat)] 3)) := by
  obtain ⟨i0, hi, hz0, hz1, hz2⟩ := info_parts info_int
  exact wpList_append_own_at _ hgd s x 39 ho base 3 i0 (.int .i64 0) 1 8 Tryz.underlying39 hi hz0 hz1 hz2 rfl (by decide) v xs.length (cellsI xs) hs (World.ownsRow.alloc hown _) ⟨w2.heap.size, 0, none⟩ 1 1 [.int .i64 (y : Nat)] hx rfl (cell_one_new _ _ _) (by simp [Value.oneCell']) (by unfold maxLen; omega) (by omega) (by rw [World.size_alloc]; omega) fun v' w' h1 h2 _ h4 => h v' w' (OwnI.snoc h1) (grown_trans (grown_any (World.grownBy_alloc _ _ none) _) h2)
section
variable {w : World} {base : Nat} {wv pv : Value} {ws : List Nat} {l : List (Nat × Nat)}
end
end Go.Proofs.YtmcnpenihoaajaaGreat
namespace Go.Proofs.YtmcnpenihoaajaaGreat
open Go.RowKit
set_option maxRecDepth 100000
theorem ckL_iff (f : Nat → Nat) (hd : Nat) (l : List Nat) : ckL f hd l ↔ hd = l.headD 0 ∧ ∀ i, i < l.length → ckAt f l i := by
  unfold ckL
  rw [strungW_at]
  exact Iff.rfl
theorem headD_get (l : List Nat) : l.headD 0 = l.getD 0 0 := by cases l <;> rfl
section
variable {w : World} {base : Nat} {wv pv : Value} {ws : List Nat} {l : List (Nat × Nat)}
end
end Go.Proofs.YtmcnpenihoaajaaGreat
namespace Go.Proofs.YtmcnpenihoaajaaGreat
open Go.RowKit
set_option maxRecDepth 100000
theorem places_any (la : Option Addr) (n c : Nat) (w : World) : Calls Tryz.prog 167 #[.slice la n c] w fun e w' => e = .returned (.func (.func 205) #[] #[.pointer (some ⟨w.heap.size, 0, none⟩)]) ∧ w.alloc (.cells #[.slice la n c] 34) = w' := by
  go_enter Tryz.func167, Tryz.ntmps167
  go_wp2
  go_ret
  exact ⟨rfl, rfl⟩
def atZ (xs : List Nat) (i : Int) : Nat := if i < 0 then 0 else xs.getD i.toNat 0
theorem places1_any {w : World} {la : Option Addr} {n c cb : Nat} {xs : List Nat} (hc : w.cell? ⟨cb, 0, none⟩ = some (.slice la n c)) (hw : WordsAt w la xs) (hn : xs.length = n) (i : Int) :
    Calls Tryz.prog 205 #[.int .i64 i, .pointer (some ⟨cb, 0, none⟩)] w fun e w' => e = .returned (.int .u64 (atZ xs i : Nat)) ∧ w.grownBy w' none := by
  by_cases h0 : i < 0
  · have e : atZ xs i = 0 := if_pos h0
    rw [e]
    clear hw hn e
    go_enter Tryz.func205, Tryz.ntmps205
    go_wp2
    go_ret
    exact ⟨rfl, grown_refl _ _⟩
  · by_cases h1 : i < (n : Int)
    · obtain ⟨k, hk⟩ : ∃ k : Nat, i = k := ⟨i.toNat, by omega⟩
      subst hk
      have hkn : k < xs.length := by omega
      obtain ⟨b, off, rfl, hb, hcs⟩ := hw.cells (by omega)
      have c0 := hcs k hkn
      have e : atZ xs k = xs.getD k 0 := by unfold atZ; rw [if_neg (by omega)]; rfl
      rw [e]
      obtain ⟨x, hx⟩ : ∃ x, xs.getD k 0 = x := ⟨_, rfl⟩
      rw [hx] at c0 ⊢
      clear hcs e hx hw
      go_enter Tryz.func205, Tryz.ntmps205
      go_wp2
      go_ret
      exact ⟨rfl, grown_refl _ _⟩
    · have e : atZ xs i = 0 := by
        unfold atZ
        rw [if_neg h0, List.getD_eq_getElem?_getD, List.getElem?_eq_none (by omega)]
        rfl
      have h2 : (n : Int) ≤ i := by omega
      rw [e]
      clear hw hn e
      go_enter Tryz.func205, Tryz.ntmps205
      go_wp2
      go_ret
      exact ⟨rfl, grown_refl _ _⟩
section
variable {w0 w : World} {T M : Nat} {R : Option Nat} {B D : Nat} {ws : List Nat} {l : List (Nat × Nat)}
end
end Go.Proofs.YtmcnpenihoaajaaGreat
