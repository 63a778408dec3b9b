/-
  Package audit: right, Audit, of a formatted segment, of one whose head isn't, and of nobody's.
  Conditions: the Tx, the segment, stand in memory, of 600 words.
-/
import Derived.Test.YtmcnpenihoaajaaGreatAudR
import Derived.Test.YtmcnpenihoaajaaGreatLRea
namespace Go.Proofs.YtmcnpenihoaajaaGreat
open Go.RowKit
set_option linter.unusedVariables false
set_option linter.unusedSimpArgs false
set_option maxRecDepth 100000
section
variable {n : Nat} {w : World} {T M : Nat} {R : Option Nat} {B D : Nat} {ws : List Nat}
set_option maxHeartbeats 2000000 in
theorem names_fr (hf : fitsP n 4800) (h : Thinks w T M R B D (fmtW 600 n) []) {la : Option Addr} {k : Nat} (hb : BlksAt w la [freeB 3776 (n - 3776)]) :
    Calls Tryz.prog 52 #[.pointer (some ⟨T, 0, none⟩), .slice la 1 k] w fun e w' => e = .returned (.bool true) ∧ w.grownBy w' none := by
  have hbe := fun (V : World) (cb : Nat) (o : Int) (hg : w.grownBy V none) (hch : Chooses 125 #[.pointer (some ⟨cb, 0, none⟩)] (usedByB o) V) => begins_any (c := k) (m := 1) (hb.later hg) rfl (by decide) hch (enters_of Tryz.func125 (by kernel_rfl) rfl)
  have hnone : ∀ o : Int, begL (usedByB o) [freeB 3776 (n - 3776)] = [] := fun o => by simp [begL, usedByB, freeB]
  simp only [hnone] at hbe
  have hld : ∀ (V : World) (x : Nat), w.grownBy V none → x < 16 → Calls Tryz.prog 66 #[.pointer (some ⟨T, 0, none⟩), .int .u64 (3392 + 24 * x + 16 : Nat)] V fun e V' => e = .returned (.int .u64 0) ∧ V.grownBy V' none := fun V x hg hx => by
    have := txload_any (h.later hg) (3392 + 24 * x + 16) (by omega)
    rw [see_fr hf, fr_zero hf (by omega) (by omega)] at this
    exact this
  have HBE := Lib.hid hbe
  have HLD := Lib.hid hld
  clear hbe hld hnone hb h
  have hmm := @run_makeMap Tryz.prog
  go_enter Tryz.func52, Tryz.ntmps52
  go_wp2_with (first
        | (go_at_call 85; go_must ((with_reducible refine (usedby_any _ _).mono ?_); rintro e w1 ⟨rfl, hch, hg1⟩))
        | (go_at_call 49; go_must ((with_reducible refine (HBE.out _ _ _ hg1 hch).mono ?_); rintro e w2 ⟨v, rfl, hown, hg2⟩; obtain ⟨va, vc, rfl⟩ := own_none hown; have hG2 := grown_trans hg1 hg2)))
  go_loopw [16] (fun i wr => ∃ c : Nat, c ≤ 16 ∧ i = .int .u64 c ∧ w.grownBy wr none) (fun i _ => 16 - (intOf i).toNat)
  case atStart => exact ⟨0, by decide, rfl, grown_trans hG2 (World.grownBy_alloc _ _ _)⟩
  case round =>
    obtain ⟨c, hc, rfl, hg⟩ := hrel
    by_cases h8 : c < 16
    · have e1 : IntKind.u64.wrap (24 * (c : Int)) = ((24 * c : Nat) : Int) := by rw [IntKind.wrap_u64]; omega
      obtain ⟨c1, hc1⟩ : ∃ c1, 24 * c = c1 := ⟨_, rfl⟩
      have e2 : IntKind.u64.wrap (3392 + (c1 : Int)) = ((3392 + c1 : Nat) : Int) := by rw [IntKind.wrap_u64]; omega
      obtain ⟨c2, hc2⟩ : ∃ c2, 3392 + c1 = c2 := ⟨_, rfl⟩
      have e3 : IntKind.u64.wrap ((c2 : Int) + 16) = ((c2 + 16 : Nat) : Int) := by rw [IntKind.wrap_u64]; omega
      obtain ⟨c3, hc3⟩ : ∃ c3, c2 + 16 = c3 := ⟨_, rfl⟩
      have hld := HLD.out wr c hg h8
      rw [hc1, hc2, hc3] at hld
      rw [hc1] at e1
      rw [hc2] at e2
      rw [hc3] at e3
      clear hc1 hc2 hc3
      have h8' : (c : Int) < 16 := by omega
      go_wp2_with (first
        | (go_at_call 66; go_must ((with_reducible refine hld.mono ?_); rintro e w4 ⟨rfl, hg4⟩)))
      go_roundw
      case rel => exact ⟨c + 1, by omega, by go_num, grown_trans hg hg4⟩
      case measure => simp [intOf]; omega
    · have h8' : ¬ (c : Int) < 16 := by omega
      go_wp2
      go_ret
      exact ⟨rfl, hg⟩
set_option maxHeartbeats 2000000 in
theorem right_fr (hf : fitsP n 4800) (h : Thinks w T M R B D (fmtW 600 n) []) :
    Calls Tryz.prog 25 #[.pointer (some ⟨T, 0, none⟩)] w fun e w' => ∃ v, e = .returned (.tuple #[v, .int .i64 0]) ∧ OwnB w' w.heap.size 128 v [freeB 3776 (n - 3776)] ∧ w.grownBy w' none := by
  have hwk := pwalk_yes h (N := 1) (ok := true) (if_pos (chk_fmt (show fitsP n (8 * 600) from hf))) (by rw [see_fr hf]; exact fr_walks hf) (by decide)
  rw [see_fr hf, fr_blocks hf] at hwk
  simp only [show ((wkE true : Nat) : Int) = 0 from rfl] at hwk
  have hmg := fun (V : World) (la : Option Addr) (k : Nat) (hb : BlksAt V la [freeB 3776 (n - 3776)]) => merged_any (c := k) hb (by simp)
  simp only [show mergedL [freeB 3776 (n - 3776)] = true from rfl, List.length_cons, List.length_nil] at hmg
  have hbe := fun (V : World) (la : Option Addr) (k : Nat) (hb : BlksAt V la [freeB 3776 (n - 3776)]) => begins_any (c := k) (m := 1) (cs := #[]) hb rfl (by decide) (isfree_any V) (enters_of Tryz.func50 (by kernel_rfl) rfl)
  simp only [show begL isFreeB [freeB 3776 (n - 3776)] = [3776] from rfl] at hbe
  have htr : ∀ (V : World) (la : Option Addr) (k : Nat), w.grownBy V none → WordsAt V la [3776] → Calls Tryz.prog 48 #[.pointer (some ⟨T, 0, none⟩), .slice la 1 k] V fun e V' => e = .returned (.bool true) ∧ V.grownBy V' none := fun V la k hg hw => (tcheck_any (c := k) (h.later hg) (fr_bed hf) (fun x hx => hx) (by simp) hw (by simp)).mono fun e V' hq => by
    obtain ⟨h1, b, h2, h3⟩ := hq
    rw [h3.2 (by rw [see_fr hf]; exact fr_tree hf _)] at h2
    exact ⟨h2, h1⟩
  have hcl := fun (V : World) (la : Option Addr) (k : Nat) (hg : w.grownBy V none) (hb : BlksAt V la [freeB 3776 (n - 3776)]) => clients_fr (k := k) hf (h.later hg) hb
  have hnm := fun (V : World) (la : Option Addr) (k : Nat) (hg : w.grownBy V none) (hb : BlksAt V la [freeB 3776 (n - 3776)]) => names_fr (k := k) hf (h.later hg) hb
  have HMG := Lib.hid hmg
  have HBE := Lib.hid hbe
  have HTR := Lib.hid htr
  have HCL := Lib.hid hcl
  have HNM := Lib.hid hnm
  clear hmg hbe htr hcl hnm h hf
  go_enter Tryz.func25, Tryz.ntmps25
  go_wp2_with (first
    | (go_at_call 46; go_must ((with_reducible refine hwk.mono ?_); rintro e w1 ⟨v, rfl, hown, hg1⟩; obtain ⟨la, k, rfl, hb⟩ := hown.at_; have HB := Lib.hid hb; have HOWN := Lib.hid hown; clear hb hown; dsimp only [List.length_cons, List.length_nil]))
    | (go_at_call 47; go_must ((with_reducible refine (HMG.out _ _ _ HB.out).mono ?_); rintro e w2 ⟨rfl, hg2⟩; have hG2 := grown_trans hg1 hg2))
    | (go_at_call 49; go_must ((with_reducible refine (HBE.out _ _ _ (HB.out.later hg2)).mono ?_); rintro e w3 ⟨vb, rfl, hownb, hg3⟩; have hG3 := grown_trans hG2 hg3; obtain ⟨lb, kb, rfl, hat⟩ := hownb.lie; have HAT := Lib.hid hat; clear hat hownb; dsimp only [List.length_cons, List.length_nil]))
    | (go_at_call 48; go_must ((with_reducible refine (HTR.out _ _ _ hG3 HAT.out).mono ?_); rintro e w4 ⟨rfl, hg4⟩; have hG4 := grown_trans hG3 hg4))
    | (go_at_call 51; go_must ((with_reducible refine (HCL.out _ _ _ hG4 (HB.out.later (grown_trans hg2 (grown_trans hg3 hg4)))).mono ?_); rintro e w5 ⟨rfl, hg5⟩; have hG5 := grown_trans hG4 hg5))
    | (go_at_call 52; go_must ((with_reducible refine (HNM.out _ _ _ hG5 (HB.out.later (grown_trans hg2 (grown_trans hg3 (grown_trans hg4 hg5))))).mono ?_); rintro e w6 ⟨rfl, hg6⟩; have hG6 := grown_trans hG5 hg6)))
  go_ret2
  exact ⟨_, rfl, HOWN.out.later (grown_trans hg2 (grown_trans hg3 (grown_trans hg4 (grown_trans hg5 hg6)))), hG6⟩
theorem right_no (h : Thinks w T M R B D ws []) (hc : chkN ws [] = 12) :
    Calls Tryz.prog 25 #[.pointer (some ⟨T, 0, none⟩)] w fun e w' => e = .returned (.tuple #[.slice none 0 0, .int .i64 12]) ∧ w.grownBy w' none := by
  have hwk := pwalk_no h hc
  go_enter Tryz.func25, Tryz.ntmps25
  go_wp2_with (first
    | (go_at_call 46; go_must ((with_reducible refine hwk.mono ?_); rintro e w1 ⟨rfl, hg1⟩)))
  go_ret2
  exact ⟨rfl, hg1⟩
theorem right_nil (w : World) :
    Calls Tryz.prog 25 #[.pointer none] w fun e w' => e = .returned (.tuple #[.slice none 0 0, .int .i64 12]) ∧ w.grownBy w' none := by
  have hwk := pwalk_nil w
  go_enter Tryz.func25, Tryz.ntmps25
  go_wp2_with (first
    | (go_at_call 46; go_must ((with_reducible refine hwk.mono ?_); rintro e w1 ⟨rfl, hg1⟩)))
  go_ret2
  exact ⟨rfl, hg1⟩
/-! ### Audit -/
theorem audit_fr (hf : fitsP n 4800) (h : IsSeg w B D (fmtW 600 n)) :
    Calls Tryz.prog 9 #[.pointer (some ⟨B, 0, none⟩)] w fun e w' => e = .returned (.int .i64 0) ∧ w.grownBy w' none := by
  have ht := txnew_yes h
  go_enter Tryz.func9, Tryz.ntmps9
  go_wp2_with (first
    | (go_at_call 26; go_must ((with_reducible refine ht.mono ?_); rintro e w1 ⟨rfl, hg1, hT⟩; have hr := right_fr hf hT))
    | (go_at_call 25; go_must ((with_reducible refine hr.mono ?_); rintro e w2 ⟨v, rfl, hown, hg2⟩)))
  go_ret
  exact ⟨rfl, grown_trans hg1 hg2⟩
theorem audit_no (h : IsSeg w B D ws) (hc : chkN ws [] = 12) :
    Calls Tryz.prog 9 #[.pointer (some ⟨B, 0, none⟩)] w fun e w' => e = .returned (.int .i64 12) ∧ w.grownBy w' none := by
  have ht := txnew_yes h
  go_enter Tryz.func9, Tryz.ntmps9
  go_wp2_with (first
    | (go_at_call 26; go_must ((with_reducible refine ht.mono ?_); rintro e w1 ⟨rfl, hg1, hT⟩; have hr := right_no hT hc))
    | (go_at_call 25; go_must ((with_reducible refine hr.mono ?_); rintro e w2 ⟨rfl, hg2⟩)))
  go_ret
  exact ⟨rfl, grown_trans hg1 hg2⟩
theorem audit_nil (w : World) :
    Calls Tryz.prog 9 #[.pointer none] w fun e w' => e = .returned (.int .i64 12) ∧ w.grownBy w' none := by
  have ht := fun V => txnew_nil V
  have hr := fun V => right_nil V
  go_enter Tryz.func9, Tryz.ntmps9
  go_wp2_with (first
    | (go_at_call 26; go_must ((with_reducible refine (ht _).mono ?_); rintro e w1 ⟨rfl, rfl⟩))
    | (go_at_call 25; go_must ((with_reducible refine (hr _).mono ?_); rintro e w2 ⟨rfl, hg2⟩)))
  go_ret
  exact ⟨rfl, hg2⟩
end
end Go.Proofs.YtmcnpenihoaajaaGreat
