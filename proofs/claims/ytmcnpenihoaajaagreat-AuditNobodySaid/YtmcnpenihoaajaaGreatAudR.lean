/-
  Package audit over a formatted segment: it is right; one free block, nobody is there, and there are no names.
  Conditions: the Tx stands in memory, over a formatted segment of 600 words.
-/
import Derived.Test.YtmcnpenihoaajaaGreatAudF
import Derived.Test.YtmcnpenihoaajaaGreatAudS
import Derived.Deep.RegionHeld3
import Derived.Test.YtmcnpenihoaajaaGreatLTxa
namespace Go.Proofs.YtmcnpenihoaajaaGreat
open Go.RowKit
set_option linter.unusedVariables false
set_option linter.unusedSimpArgs false
set_option maxRecDepth 100000
section
variable {n : Nat} {w : World} {T M : Nat} {R : Option Nat} {B D : Nat}
theorem own_none {w : World} {base : Nat} {v : Value} (h : OwnW w base v []) : ∃ a c, v = .slice a 0 c := by
  obtain ⟨a, c, h⟩ := h.slice
  exact ⟨a, c, h⟩
/-- Equal, where there is nothing. -/
theorem equal_none (a b : Option Addr) (c d : Nat) (w : World) : Calls Tryz.prog 77 #[.slice a 0 c, .slice b 0 d] w fun e w' => e = .returned (.bool true) ∧ w = w' := by
  go_enter Tryz.func77, Tryz.ntmps77
  go_wp2
  go_loopw [13] (fun i wr => i = .int .i64 0 ∧ w = wr) (fun _ _ => 0)
  case atStart => exact ⟨rfl, rfl⟩
  case round =>
    obtain ⟨rfl, rfl⟩ := hrel
    go_wp2
    go_ret
    exact ⟨rfl, rfl⟩
set_option maxHeartbeats 1000000 in
theorem listis_fr (hf : fitsP n 4800) (h : Thinks w T M R B D (fmtW 600 n) []) {c : Int} (hc0 : 0 ≤ c) (hc : c < 8) (a : Option Addr) (k : Nat) :
    Calls Tryz.prog 86 #[.pointer (some ⟨T, 0, none⟩), .int .i64 c, .slice a 0 k] w fun e w' => e = .returned (.bool true) ∧ w.grownBy w' none := by
  have hl := list_anyG (fr_tells hf h c)
  have hck := fun (V : World) (p : Option Addr) (q : Nat) (hg : w.grownBy V none) => lcheck_any (la := p) (c := q) (n := 0) (xs := []) (h.later hg) (by rw [fmtW_len]; omega) ⟨fun hh => absurd hh (by simp)⟩ rfl (by decide) (fun i => by simp) c
  have hck2 : decide (ckL (txSee (fmtW 600 n) []) (cGet (fmtW 600 n) [] c 8) []) = true := by
    rw [decide_eq_true_iff, fr_get hf]
    exact ⟨rfl, trivial⟩
  rw [hck2] at hck
  have HCK := Lib.hid hck
  clear hck hck2
  go_enter Tryz.func86, Tryz.ntmps86
  go_wp2_with (first
    | (go_at_call 126; go_must ((with_reducible refine hl.mono ?_); rintro e w1 ⟨v, rfl, hown, hg1⟩; obtain ⟨va, vc, rfl⟩ := own_none hown))
    | (go_at_call 127; go_must ((with_reducible refine (HCK.out _ _ _ hg1).mono ?_); rintro e w2 ⟨rfl, hg2⟩))
    | (go_at_call 128; go_must ((with_reducible refine (sort_none _ _ _).mono ?_); rintro e w3 ⟨rfl, rfl⟩))
    | (go_at_call 77; go_must ((with_reducible refine (equal_none _ _ _ _ _).mono ?_); rintro e w4 ⟨rfl, rfl⟩)))
  go_ret
  exact ⟨rfl, grown_trans hg1 hg2⟩
set_option maxHeartbeats 2000000 in
theorem clients_fr (hf : fitsP n 4800) (h : Thinks w T M R B D (fmtW 600 n) []) {la : Option Addr} {k : Nat} (hb : BlksAt w la [freeB 3776 (n - 3776)]) :
    Calls Tryz.prog 51 #[.pointer (some ⟨T, 0, none⟩), .slice la 1 k] w fun e w' => e = .returned (.bool true) ∧ w.grownBy w' none := by
  have hbe := fun (V : World) (cb : Nat) (o : Int) (hg : w.grownBy V none) (hch : Chooses 125 #[.pointer (some ⟨cb, 0, none⟩)] (usedByB o) V) => begins_any (c := k) (m := 1) (hb.later hg) rfl (by decide) hch (enters_of Tryz.func125 (by kernel_rfl) rfl)
  have hnone : ∀ o : Int, begL (usedByB o) [freeB 3776 (n - 3776)] = [] := fun o => by simp [begL, usedByB, freeB]
  simp only [hnone] at hbe
  have hli := fun (V : World) (c : Int) (a : Option Addr) (q : Nat) (hg : w.grownBy V none) (hc0 : 0 ≤ c) (hc : c < 8) => listis_fr hf (h.later hg) hc0 hc a q
  have hst := fun (V : World) (c : Int) (hg : w.grownBy V none) => cstate_any (h.later hg) c
  simp only [fr_get hf] at hst
  have hma : ∀ V : World, Calls Tryz.prog 87 #[.int .u64 0, .int .i64 0] V fun e w' => e = .returned (.bool true) ∧ V = w' := fun V => maystate_any 0 0 V
  have HBE := Lib.hid hbe
  have HLI := Lib.hid hli
  have HST := Lib.hid hst
  have HMA := Lib.hid hma
  clear hbe hli hst hma hnone hb h
  go_enter Tryz.func51, Tryz.ntmps51
  go_wp2
  go_loopw [7] (fun i wr => ∃ c : Nat, c ≤ 8 ∧ i = .int .i64 c ∧ w.grownBy wr none) (fun i _ => 8 - (intOf i).toNat)
  case atStart => exact ⟨0, by decide, rfl, grown_refl _ _⟩
  case round =>
    obtain ⟨c, hc, rfl, hg⟩ := hrel
    by_cases h8 : c < 8
    · have e1 : IntKind.i64.wrap ((c : Int) + 1) = ((c + 1 : Nat) : Int) := by rw [IntKind.wrap_i64]; omega
      obtain ⟨c1, hc1⟩ : ∃ c1, c + 1 = c1 := ⟨_, rfl⟩
      rw [hc1] at e1
      have h8' : (c : Int) < 8 := by omega
      go_wp2_with (first
        | (go_at_call 85; go_must ((with_reducible refine (usedby_any _ _).mono ?_); rintro e w1 ⟨rfl, hch, hg1⟩; have hG1 := grown_trans hg hg1))
        | (go_at_call 49; go_must ((with_reducible refine (HBE.out _ _ _ hG1 hch).mono ?_); rintro e w2 ⟨v, rfl, hown, hg2⟩; obtain ⟨va, vc, rfl⟩ := own_none hown; have hG2 := grown_trans hG1 hg2))
        | (go_at_call 86; go_must ((with_reducible refine (HLI.out _ _ _ _ hG2 (by omega) (by omega)).mono ?_); rintro e w3 ⟨rfl, hg3⟩; have hG3 := grown_trans hG2 hg3))
        | (go_at_call 88; go_must ((with_reducible refine (HST.out _ _ hG3).mono ?_); rintro e w4 ⟨rfl, hg4⟩; have hG4 := grown_trans hG3 hg4))
        | (go_at_call 87; go_must ((with_reducible refine (HMA.out _).mono ?_); rintro e w5 ⟨rfl, rfl⟩)))
      go_roundw
      case rel => exact ⟨c + 1, by omega, by go_num, hG4⟩
      case measure => simp [intOf]; omega
    · have h8' : ¬ (c : Int) < 8 := by omega
      go_wp2
      go_ret
      exact ⟨rfl, hg⟩
end
end Go.Proofs.YtmcnpenihoaajaaGreat
