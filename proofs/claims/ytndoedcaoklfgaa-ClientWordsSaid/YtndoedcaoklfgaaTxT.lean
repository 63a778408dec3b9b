/-
  The contracts of the plain answers Apply and Same of layer 3.
  Conditions: the words, and the pairs, are rows of the call's own, or nil.
-/
import Derived.Test.YtndoedcaoklfgaaTxS
import Derived.Test.YtndoedcaoklfgaaTxF
import Derived.StillTailTactics
import Derived.Deep.RegionHeld3
import Derived.Deep.QuietTactic
import Derived.BigQuiet
namespace Go.Proofs.Ytndoedcaoklfgaa
open Go.RowKit
set_option linter.unusedVariables false
set_option linter.unusedSimpArgs false

theorem applyI_step (ws : List Nat) (l : List (Nat × Nat)) (k : Nat) : applyI ws l (List.range (k + 1)) = put (applyI ws l (List.range k)) (txX l k) (txV l k) := by
  rw [List.range_succ, applyI_snoc]
set_option maxHeartbeats 400000 in
theorem rsame_any {w : World} {base base' : Nat} {p q : Value} {l : List (Nat × Nat)} (hp : OwnP w base p l) (hq : OwnP w base' q l) (hl : l.length ≤ 1000000) :
    Calls Try.prog 17 #[p, q] w fun e w' => e = .returned (.bool true) ∧ w.grownBy w' none := by
  obtain ⟨pa, pc, pg, hpv, hpa, hpc⟩ := OwnP.addr hp
  obtain ⟨qa, qc, qg, hqv, hqa, hqc⟩ := OwnP.addr hq
  have hpc' := fun w' (hg : w.grownBy w' none) => hpc w' (hp.later hg)
  have hqc' := fun w' (hg : w.grownBy w' none) => hqc w' (hq.later hg)
  clear hpc hqc hp hq
  subst hpv
  subst hqv
  have HPA := Lib.hid hpa
  have HQA := Lib.hid hqa
  clear hpa hqa
  have e0 : ((l.length : Int) != (l.length : Int)) = false := by simp
  go_enter Try.func17, Try.ntmps17
  go_wp2
  go_loopw [5] (fun i wr => ∃ k : Nat, k ≤ l.length ∧ i = .int .i64 k ∧ w.grownBy wr none) (fun i _ => l.length - (intOf i).toNat)
  case atStart => exact ⟨0, Nat.zero_le _, rfl, grown_refl _ _⟩
  case round =>
    obtain ⟨k, hk, rfl, R⟩ := hrel
    rcases Nat.lt_or_ge k l.length with h1 | h1
    · obtain ⟨c1, c2⟩ := hpc' _ R k h1
      obtain ⟨d1, d2⟩ := hqc' _ R k h1
      have ea := HPA.out (by omega)
      have eb := HQA.out (by omega)
      subst ea
      subst eb
      generalize txX l k = x at *
      generalize txV l k = y at *
      have h3 : (((x : Nat) : Int) == ((x : Nat) : Int)) = true := by simp
      have h4 : (((y : Nat) : Int) == ((y : Nat) : Int)) = true := by simp
      go_wp2
      go_quiet (fail)
      go_wp2
      go_roundw
      case rel => exact ⟨k + 1, by omega, by go_num, grown_trans R (grown_drewN _ _)⟩
      case measure => simp [intOf]; omega
    · go_wp2
      go_ret
      exact ⟨rfl, R⟩
end Go.Proofs.Ytndoedcaoklfgaa
