/-
  The contract of Nums at two lists that are the same: true.
  Conditions: both are rows of the call's own, or nil.
-/
import Derived.Test.YtkpopaadkfgjaaaSegR
import Derived.Deep.QuietTactic
import Derived.BigQuiet
import Derived.Deep.LoopGhost
namespace Go.Proofs.Ytkpopaadkfgjaaa
open Go.RowKit
set_option linter.unusedVariables false
set_option linter.unusedSimpArgs false

set_option maxHeartbeats 400000 in
theorem nums_same {w : World} {base base' : Nat} {p q : Value} {l : List Nat} (hp : OwnW w base p l) (hq : OwnW w base' q l) (hl : l.length ≤ 1000000) :
    Calls Try.prog 14 #[p, q] w fun e w' => e = .returned (.bool true) ∧ w.grownBy w' none := by
  obtain ⟨pa, pc, pg, hpv, hpa, hpc⟩ := OwnW.addr hp
  obtain ⟨qa, qc, qg, hqv, hqa, hqc⟩ := OwnW.addr hq
  have hpc' := fun w' (hg : w.grownBy w' none) => hpc w' (hp.later hg)
  have hqc' := fun w' (hg : w.grownBy w' none) => hqc w' (hq.later hg)
  clear hpc hqc hp hq
  subst hpv
  subst hqv
  have HPA := Lib.hid hpa
  have HQA := Lib.hid hqa
  clear hpa hqa
  have e0 : ((l.length : Int) != (l.length : Int)) = false := by simp
  go_enter Try.func14, Try.ntmps14
  go_wp2
  go_loopw [5] (fun i wr => ∃ k : Nat, k ≤ l.length ∧ i = .int .i64 k ∧ w.grownBy wr none) (fun i _ => l.length - (intOf i).toNat)
  case atStart => exact ⟨0, Nat.zero_le _, rfl, grown_refl _ _⟩
  case round =>
    obtain ⟨k, hk, rfl, R⟩ := hrel
    rcases Nat.lt_or_ge k l.length with h1 | h1
    · have c1 := hpc' _ R k h1
      have c2 := hqc' _ R k h1
      have ea := HPA.out (by omega)
      have eb := HQA.out (by omega)
      subst ea
      subst eb
      generalize l.getD k 0 = x at *
      have h3' : (((x : Nat) : Int) != ((x : Nat) : Int)) = false := by simp
      go_wp2
      go_quiet (fail)
      go_wp2
      go_roundw
      case rel => exact ⟨k + 1, by omega, by go_num, grown_trans R (grown_drewN _ _)⟩
      case measure => simp [intOf]; omega
    · go_wp2
      go_ret
      exact ⟨rfl, R⟩
/-- A list that Diff told is a row of the call's own. -/
theorem DiffRel.words {w wr : World} {a b : List Nat} {k : Nat} {v : Value} (R : DiffRel w a b k v wr) : OwnW wr w.heap.size v (diffL a b k) := R.own
end Go.Proofs.Ytkpopaadkfgjaaa
