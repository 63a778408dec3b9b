/-
  A word of a client's record, behind another one that is thought of.
  No condition.
-/
import Derived.Test.YtndoedcaoklfgaaCliF
import Derived.Test.YtndoedcaoklfgaaDeedO
namespace Go.Proofs.Ytndoedcaoklfgaa
open Go.RowKit
set_option linter.unusedVariables false
set_option linter.unusedSimpArgs false
set_option maxRecDepth 100000

theorem slotN_inj {c d : Int} {q r : Nat} (h : slotP c q) (k : slotP d r) (e : slotN c q = slotN d r) : c = d ∧ q = r := by
  unfold slotP thereP at h k
  unfold slotN at e
  omega
theorem slot_stands {n : Nat} {c : Int} {q : Nat} (h : slotP c q) : stands (fmt48 n) (slotN c q) :=
  stands48 (by unfold slotP at h; unfold slotN; omega) (by have := slot_lt h; omega)
theorem get_set {n : Nat} {l : List (Nat × Nat)} {c : Int} {q v : Nat} (hs : slotP c q) (d : Int) (r : Nat) : cGet (fmt48 n) (cSet (fmt48 n) l c q v) d r = if d = c ∧ r = q then v else cGet (fmt48 n) l d r := by
  unfold cGet cSet
  rw [if_pos hs]
  by_cases hd : slotP d r
  · rw [if_pos hd, if_pos hd, see_stored (slot_stands hs)]
    by_cases e : d = c ∧ r = q
    · obtain ⟨rfl, rfl⟩ := e
      rw [if_pos rfl, if_pos ⟨rfl, rfl⟩]
    · rw [if_neg e, if_neg (fun e2 => e (slotN_inj hd hs e2))]
  · rw [if_neg hd, if_neg hd]
    by_cases e : d = c ∧ r = q
    · obtain ⟨rfl, rfl⟩ := e
      exact absurd hs hd
    · rw [if_neg e]
/-- .. where there is no such word -/
theorem set_not {ws : List Nat} {l : List (Nat × Nat)} {c : Int} {q v : Nat} (hs : ¬ slotP c q) : cSet ws l c q v = l := if_neg hs
/-- nobody has come -/
theorem get_none {n : Nat} (h : fitsP n 4800) (c : Int) {q : Nat} (h8 : q % 8 = 0) (hq : q < 416) : cGet (fmt48 n) [] c q = 0 := by
  unfold cGet
  by_cases hs : slotP c q
  · rw [if_pos hs]
    obtain ⟨k, rfl⟩ := Int.eq_ofNat_of_zero_le hs.1.1
    have hk : k < 8 := by have := hs.1.2; omega
    rw [(slot_of k q hk h8 hq).2]
    exact fmt_slot h k q hk h8 hq
  · rw [if_neg hs]
section
variable {ws : List Nat} {l : List (Nat × Nat)} {c : Int}
theorem att_new (hc : thereP c) (h : cGet ws l c 0 = 0) : attE ws l c = 0 ∧ attL ws l c = cSet ws l c 0 1 := ⟨by unfold attE; rw [if_pos hc, if_pos h], if_pos ⟨hc, h⟩⟩
theorem att_not (hc : ¬ thereP c) : attE ws l c = 1 ∧ attL ws l c = l := ⟨if_neg hc, if_neg (fun h => hc h.1)⟩
theorem det_goes (hc : thereP c) (h : cGet ws l c 0 = 1) (h8 : cGet ws l c 8 = 0) : detE ws l c = 0 ∧ detL ws l c = cSet ws l c 0 0 := ⟨by unfold detE; rw [if_pos hc, if_pos h, if_pos h8], if_pos ⟨hc, h, h8⟩⟩
theorem det_busy (hc : thereP c) (h : cGet ws l c 0 = 1) (h8 : cGet ws l c 8 ≠ 0) : detE ws l c = 11 ∧ detL ws l c = l := ⟨by unfold detE; rw [if_pos hc, if_pos h, if_neg h8], if_neg (fun h => h8 h.2.2)⟩
theorem det_no (hc : thereP c) (h : cGet ws l c 0 ≠ 1) : detE ws l c = 10 ∧ detL ws l c = l := ⟨by unfold detE; rw [if_pos hc, if_neg h], if_neg (fun k => h k.2.1)⟩
theorem det_not (hc : ¬ thereP c) : detE ws l c = 1 ∧ detL ws l c = l := ⟨if_neg hc, if_neg (fun h => hc h.1)⟩
end
end Go.Proofs.Ytndoedcaoklfgaa
