/-
  The contracts of the plain answers May, New, in and Store: words in a row of the call's own.
  Conditions: the words are a row of the call's own, or nil; the numbers are of 64 bits.
-/
import Derived.Test.YtkpopaadkfgjaaaSegH
import Derived.Deep.AppendLies
import Derived.Deep.Onto
namespace Go.Proofs.Ytkpopaadkfgjaaa
open Go.RowKit
set_option linter.unusedVariables false
set_option linter.unusedSimpArgs false

theorem rmay_any (n : Nat) (hn : n < 18446744073709551616) (w : World) :
    Calls Try.prog 66 #[.int .u64 n] w fun e w' => e = .returned (.bool (decide (may n))) ∧ w = w' := by
  by_cases h0 : 0 < (n : Int)
  · by_cases h8 : (n : Int) % 8 = 0
    · have hd : decide (may n) = decide ((n : Int) ≤ 1048576) := by
        rw [decide_eq_decide]
        unfold may
        omega
      rw [hd]
      go_enter Try.func66, Try.ntmps66
      go_wp2
      go_ret
      exact ⟨rfl, rfl⟩
    · have hd : decide (may n) = false := decide_eq_false (by unfold may; omega)
      rw [hd]
      go_enter Try.func66, Try.ntmps66
      go_wp2
      go_ret
      exact ⟨rfl, rfl⟩
  · have hd : decide (may n) = false := decide_eq_false (by unfold may; omega)
    rw [hd]
    have : n = 0 := by omega
    subst this
    go_enter Try.func66, Try.ntmps66
    go_wp2
    go_ret
    exact ⟨rfl, rfl⟩

/-- A row of the call's own that holds these words (or nil, of none). -/
def OwnW (w : World) (base : Nat) (v : Value) (ws : List Nat) : Prop := w.ownsRow base 30 1 v ws.length (cellsU ws)
theorem OwnW.later {w w' : World} {base : Nat} {v : Value} {ws : List Nat} (h : OwnW w base v ws) (hg : w.grownBy w' none) : OwnW w' base v ws := own_kept h hg
theorem OwnW.slice {w : World} {base : Nat} {v : Value} {ws : List Nat} (h : OwnW w base v ws) : ∃ a c, v = .slice a ws.length c := by
  rcases h.2 with ⟨h1, h2⟩ | ⟨g, cap, cur, hv, _⟩
  · exact ⟨none, 0, by rw [h1, h2]⟩
  · exact ⟨_, _, hv⟩
theorem OwnW.mono {w : World} {base base' : Nat} {v : Value} {ws : List Nat} (h : OwnW w base v ws) (hb : base' ≤ base) : OwnW w base' v ws := World.ownsRow.mono h hb
theorem OwnW.at_ {w : World} {base g c : Nat} {ws : List Nat} (h : OwnW w base (.slice (some ⟨g, 0, none⟩) ws.length c) ws) (j : Nat) (hj : j < ws.length) : w.cell? ⟨g, j, none⟩ = some (.int .u64 (ws.getD j 0 : Nat)) := by
  have := World.ownsRow.cellAt h j (by omega)
  rw [this]
  simp [cellsU, List.getElem?_eq_getElem hj]

theorem make_words (n : Nat) (hn : n ≤ 1048576) (w : World) :
    (Instr.makeSlice 23 (.int .u64 n) (.int .u64 n)).run Try.prog w = .ok (.slice (some ⟨w.heap.size, 0, none⟩) n n) (w.alloc (.cells (madeCells #[.int .u64 0] n) 30)) := by
  obtain ⟨i, hi, hz, hs, hb⟩ := info_parts info_u64
  have h := run_make (P := Try.prog) w 23 30 i _ Try.underlying23 hi hz .u64 .u64 n n (by omega) (Int.le_refl _) (by rw [hb]; omega) (by omega)
  rw [h, hs]
  simp only [Int.toNat_natCast, Nat.mul_one]
  rfl
theorem made_words (m : Nat) : (madeCells (#[.int .u64 0] : Array Value) m).toList = cellsU (List.replicate m 0) := by
  rw [toList_madeCells_one]
  simp [cellsU]
theorem own_made (w : World) (m : Nat) (hm : m ≤ 131072) : OwnW (w.alloc (.cells (madeCells #[.int .u64 0] m) 30)) w.heap.size (.slice (some ⟨w.heap.size, 0, none⟩) m m) (List.replicate m 0) := by
  have h := World.ownsRow_lit (base := w.heap.size) (e := 30) (size := 1) w (madeCells #[.int .u64 0] m) m (Nat.le_refl _) (by unfold maxLen; omega) (by rw [size_madeCells, Nat.mul_one])
  unfold OwnW
  rw [List.length_replicate, ← made_words]
  exact h
theorem rnew_no (n : Nat) (hlt : n < 18446744073709551616) (h : ¬ may n) (w : World) :
    Calls Try.prog 44 #[.int .u64 n] w fun e w' => e = .returned (.slice none 0 0) ∧ w = w' := by
  have hc := rmay_any n hlt w
  rw [decide_eq_false h] at hc
  go_enter Try.func44, Try.ntmps44
  go_wp2_with (go_at_call 66; refine hc.mono ?_; rintro e w' ⟨rfl, rfl⟩)
  go_ret
  exact ⟨rfl, rfl⟩
theorem rnew_yes (m : Nat) (h1 : 1 ≤ m) (hm : m ≤ 131072) (w : World) :
    Calls Try.prog 44 #[.int .u64 (8 * m : Nat)] w fun e w' => e = .returned (.slice (some ⟨w.heap.size, 0, none⟩) m m) ∧ w.grownBy w' none ∧ OwnW w' w.heap.size (.slice (some ⟨w.heap.size, 0, none⟩) m m) (List.replicate m 0) := by
  have hc := rmay_any (8 * m) (by omega) w
  rw [decide_eq_true (show may (8 * m) from ⟨by omega, by omega, by omega⟩)] at hc
  have hmk := make_words m (by omega)
  obtain ⟨n, hn⟩ : ∃ n, 8 * m = n := ⟨_, rfl⟩
  rw [hn] at hc ⊢
  have hq : (n : Int) / 8 = (m : Int) := by omega
  have H := Lib.hid hn
  clear hn
  have ho := own_made w m hm
  go_enter Try.func44, Try.ntmps44
  go_wp2_with (go_at_call 66; refine hc.mono ?_; rintro e w' ⟨rfl, rfl⟩)
  go_ret
  exact ⟨rfl, World.grownBy_alloc _ _ _, ho⟩

theorem rin_any {w : World} {base : Nat} {v : Value} {ws : List Nat} (h : OwnW w base v ws) (hm : ws.length ≤ 131072) (off : Nat) (ho : off < 18446744073709551616) :
    Calls Try.prog 68 #[v, .int .u64 off] w fun e w' => e = .returned (.bool (decide (stands ws off))) ∧ w = w' := by
  obtain ⟨a, c, rfl⟩ := h.slice
  by_cases h8 : (off : Int) % 8 = 0
  · have hd : decide (stands ws off) = decide ((off : Int) / 8 < (ws.length : Int)) := by
      rw [decide_eq_decide]
      unfold stands
      omega
    rw [hd]
    go_enter Try.func68, Try.ntmps68
    go_wp2
    go_ret
    exact ⟨rfl, rfl⟩
  · have hd : decide (stands ws off) = false := decide_eq_false (by unfold stands; omega)
    rw [hd]
    go_enter Try.func68, Try.ntmps68
    go_wp2
    go_ret
    exact ⟨rfl, rfl⟩
theorem OwnW.addr {w : World} {base : Nat} {v : Value} {ws : List Nat} (h : OwnW w base v ws) : ∃ a c g, v = .slice a ws.length c ∧ (0 < ws.length → a = some ⟨g, 0, none⟩) ∧ ∀ w', OwnW w' base v ws → ∀ j, j < ws.length → w'.cell? ⟨g, j, none⟩ = some (.int .u64 (ws.getD j 0 : Nat)) := by
  rcases h.2 with ⟨h1, h2⟩ | ⟨g, cap, cur, hv, _⟩
  · exact ⟨none, 0, 0, by rw [h1, h2], fun h => by omega, fun w' _ j hj => by omega⟩
  · exact ⟨_, cap, g, hv, fun _ => rfl, fun w' h' j hj => by rw [hv] at h'; exact OwnW.at_ h' j hj⟩
theorem grown_drewN (w : World) (n : Nat) : w.grownBy (w.drewN n) none := ⟨rfl, rfl, rfl, Nat.le_refl _, fun _ _ _ => rfl⟩
end Go.Proofs.Ytkpopaadkfgjaaa
