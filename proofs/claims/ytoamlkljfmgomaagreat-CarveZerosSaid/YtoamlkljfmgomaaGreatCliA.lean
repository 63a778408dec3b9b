/-
  Package client: the contracts of there, Word, load, store, State, Head, Point, become, Attach, Detach, Kill and Clear.
  Conditions: the Tx is nobody's, or stands in memory; the numbers are of 64 bits.
-/
import Derived.Test.YtoamlkljfmgomaaGreatLHead
namespace Go.Proofs.YtoamlkljfmgomaaGreat
open Go.RowKit
set_option linter.unusedVariables false
set_option linter.unusedSimpArgs false
set_option maxRecDepth 100000

/-- Is there such a client? -/
def thereP (c : Int) : Prop := 0 ≤ c ∧ c < 8
instance (c : Int) : Decidable (thereP c) := by unfold thereP; infer_instance
/-- Is there such a word of such a client? -/
def slotP (c : Int) (q : Nat) : Prop := thereP c ∧ q % 8 = 0 ∧ q < 416
instance (c : Int) (q : Nat) : Decidable (slotP c q) := by unfold slotP; infer_instance
/-- where it stands -/
def slotN (c : Int) (q : Nat) : Nat := 64 + 416 * c.toNat + q
/-- a word of a client's record -/
def cGet (ws : List Nat) (l : List (Nat × Nat)) (c : Int) (q : Nat) : Nat := if slotP c q then txSee ws l (slotN c q) else 0
/-- what is thought of, when that word is otherwise -/
def cSet (ws : List Nat) (l : List (Nat × Nat)) (c : Int) (q v : Nat) : List (Nat × Nat) := if slotP c q then txStore ws l (slotN c q) v else l
/-- what Word tells -/
def wordN (c : Int) (q : Nat) : Nat := if slotP c q then slotN c q else 0
theorem slot_lt {c : Int} {q : Nat} (h : slotP c q) : slotN c q < 3776 := by unfold slotP thereP at h; unfold slotN; omega
theorem slot_state (c : Int) : slotP c 0 ↔ thereP c := ⟨fun h => h.1, fun h => ⟨h, by decide, by decide⟩⟩
theorem slot_head (c : Int) : slotP c 8 ↔ thereP c := ⟨fun h => h.1, fun h => ⟨h, by decide, by decide⟩⟩
theorem there_any (c : Int) (w : World) : Calls Tryz.prog 121 #[.int .i64 c] w fun e w' => e = .returned (.bool (decide (thereP c))) ∧ w = w' := by
  by_cases h0 : 0 ≤ c
  · rw [show decide (thereP c) = decide (c < 8) by rw [decide_eq_decide]; unfold thereP; omega]
    go_enter Tryz.func121, Tryz.ntmps121
    go_wp2
    go_ret
    exact ⟨rfl, rfl⟩
  · rw [decide_eq_false (show ¬ thereP c by unfold thereP; omega)]
    go_enter Tryz.func121, Tryz.ntmps121
    go_wp2
    go_ret
    exact ⟨rfl, rfl⟩
set_option maxHeartbeats 1000000 in
theorem cword_any (c : Int) (q : Nat) (w : World) : Calls Tryz.prog 106 #[.int .i64 c, .int .u64 q] w fun e w' => e = .returned (.tuple #[.int .u64 (wordN c q : Nat), .bool (decide (slotP c q))]) ∧ w = w' := by
  have ht := there_any c w
  unfold wordN
  by_cases hc : thereP c
  · rw [decide_eq_true hc] at ht
    by_cases h8 : (q : Int) % 8 = 0
    · by_cases hq : (q : Int) < 416
      · have hs : slotP c q := ⟨hc, by omega, by omega⟩
        rw [if_pos hs, decide_eq_true hs]
        obtain ⟨k, rfl⟩ := Int.eq_ofNat_of_zero_le hc.1
        have hk : k < 8 := by have := hc.2; omega
        have e1 : IntKind.u64.wrap (k : Int) = (k : Nat) := by rw [IntKind.wrap_u64]; omega
        have e2 : IntKind.u64.wrap ((k : Int) * 416) = (416 * k : Nat) := by rw [IntKind.wrap_u64]; omega
        have e3 : IntKind.u64.wrap (64 + ((416 * k : Nat) : Int)) = (64 + 416 * k : Nat) := by rw [IntKind.wrap_u64]; omega
        have e4 : IntKind.u64.wrap (((64 + 416 * k : Nat) : Int) + (q : Int)) = (slotN (k : Int) q : Nat) := by rw [IntKind.wrap_u64]; unfold slotN; simp only [Int.toNat_natCast]; omega
        go_enter Tryz.func106, Tryz.ntmps106
        go_wp2_with (go_at_call 121; (with_reducible refine ht.mono ?_); rintro e w1 ⟨rfl, rfl⟩)
        refine bodyPost_ret (v := .tuple #[.int .u64 (slotN (k : Int) q : Nat), .bool true]) (by simp [results, Tryz.results106, go_sem, slotN]) rfl ⟨rfl, rfl⟩
      · have hs : ¬ slotP c q := fun h => by have := h.2.2; omega
        rw [if_neg hs, decide_eq_false hs]
        go_enter Tryz.func106, Tryz.ntmps106
        go_wp2_with (go_at_call 121; (with_reducible refine ht.mono ?_); rintro e w1 ⟨rfl, rfl⟩)
        refine bodyPost_ret (v := .tuple #[.int .u64 (0 : Nat), .bool false]) (by simp [results, Tryz.results106, go_sem]) rfl ⟨rfl, rfl⟩
    · have hs : ¬ slotP c q := fun h => by have := h.2.1; omega
      rw [if_neg hs, decide_eq_false hs]
      go_enter Tryz.func106, Tryz.ntmps106
      go_wp2_with (go_at_call 121; (with_reducible refine ht.mono ?_); rintro e w1 ⟨rfl, rfl⟩)
      refine bodyPost_ret (v := .tuple #[.int .u64 (0 : Nat), .bool false]) (by simp [results, Tryz.results106, go_sem]) rfl ⟨rfl, rfl⟩
  · rw [decide_eq_false hc] at ht
    have hs : ¬ slotP c q := fun h => hc h.1
    rw [if_neg hs, decide_eq_false hs]
    go_enter Tryz.func106, Tryz.ntmps106
    go_wp2_with (go_at_call 121; (with_reducible refine ht.mono ?_); rintro e w1 ⟨rfl, rfl⟩)
    refine bodyPost_ret (v := .tuple #[.int .u64 (0 : Nat), .bool false]) (by simp [results, Tryz.results106, go_sem]) rfl ⟨rfl, rfl⟩
section
variable {w : World} {T M : Nat} {R : Option Nat} {B D : Nat} {ws : List Nat} {l : List (Nat × Nat)}
set_option maxHeartbeats 1000000 in
theorem cload_any (h : Thinks w T M R B D ws l) (c : Int) (q : Nat) : Calls Tryz.prog 97 #[.pointer (some ⟨T, 0, none⟩), .int .i64 c, .int .u64 q] w fun e w' => e = .returned (.int .u64 (cGet ws l c q : Nat)) ∧ w.grownBy w' none := by
  have hw := cword_any c q w
  unfold wordN at hw
  unfold cGet
  by_cases hs : slotP c q
  · rw [decide_eq_true hs, if_pos hs] at hw
    have hl := txload_any h (slotN c q) (by have := slot_lt hs; omega)
    rw [if_pos hs]
    obtain ⟨n, hn⟩ : ∃ n, slotN c q = n := ⟨_, rfl⟩
    rw [hn] at hw hl ⊢
    go_enter Tryz.func97, Tryz.ntmps97
    go_wp2_with (first | (go_at_call 106; (with_reducible refine hw.mono ?_); rintro e w1 ⟨rfl, rfl⟩) | (go_at_call 20; (with_reducible refine hl.mono ?_); rintro e w2 ⟨rfl, hg2⟩))
    go_ret
    exact ⟨rfl, hg2⟩
  · rw [decide_eq_false hs, if_neg hs] at hw
    rw [if_neg hs]
    go_enter Tryz.func97, Tryz.ntmps97
    go_wp2_with (first | (go_at_call 106; (with_reducible refine hw.mono ?_); rintro e w1 ⟨rfl, rfl⟩))
    go_ret
    exact ⟨rfl, grown_refl _ _⟩
set_option maxHeartbeats 1000000 in
theorem cstore_any (h : Thinks w T M R B D ws l) (c : Int) (q v : Nat) (hv : v < 18446744073709551616) : Calls Tryz.prog 122 #[.pointer (some ⟨T, 0, none⟩), .int .i64 c, .int .u64 q, .int .u64 v] w fun e w' => e = .returned (.bool (decide (slotP c q))) ∧ Thought w T M R B D ws (cSet ws l c q v) w' := by
  have hw := cword_any c q w
  unfold wordN at hw
  unfold cSet
  by_cases hs : slotP c q
  · rw [decide_eq_true hs, if_pos hs] at hw
    have hl := txstore_any h (slotN c q) v (by have := slot_lt hs; omega) hv
    rw [if_pos hs, decide_eq_true hs]
    obtain ⟨n, hn⟩ : ∃ n, slotN c q = n := ⟨_, rfl⟩
    rw [hn] at hw hl ⊢
    go_enter Tryz.func122, Tryz.ntmps122
    go_wp2_with (first | (go_at_call 106; (with_reducible refine hw.mono ?_); rintro e w1 ⟨rfl, rfl⟩) | (go_at_call 17; (with_reducible refine hl.mono ?_); rintro e w2 ⟨rfl, ht2⟩))
    go_ret
    exact ⟨rfl, ht2⟩
  · rw [decide_eq_false hs, if_neg hs] at hw
    rw [if_neg hs, decide_eq_false hs]
    go_enter Tryz.func122, Tryz.ntmps122
    go_wp2_with (first | (go_at_call 106; (with_reducible refine hw.mono ?_); rintro e w1 ⟨rfl, rfl⟩))
    go_ret
    exact ⟨rfl, Thought.same h (grown_refl _ _)⟩
theorem chead_any (h : Thinks w T M R B D ws l) (c : Int) : Calls Tryz.prog 65 #[.pointer (some ⟨T, 0, none⟩), .int .i64 c] w fun e w' => e = .returned (.int .u64 (cGet ws l c 8 : Nat)) ∧ w.grownBy w' none := by
  have hl : Calls Tryz.prog 97 #[.pointer (some ⟨T, 0, none⟩), .int .i64 c, .int .u64 8] w _ := cload_any h c 8
  go_enter Tryz.func65, Tryz.ntmps65
  go_wp2_with (first | (go_at_call 97; (with_reducible refine hl.mono ?_); rintro e w1 ⟨rfl, hg1⟩))
  go_ret
  exact ⟨rfl, hg1⟩
theorem cpoint_any (h : Thinks w T M R B D ws l) (c : Int) (v : Nat) (hv : v < 18446744073709551616) : Calls Tryz.prog 107 #[.pointer (some ⟨T, 0, none⟩), .int .i64 c, .int .u64 v] w fun e w' => e = .returned (.tuple #[]) ∧ Thought w T M R B D ws (cSet ws l c 8 v) w' := by
  have hl : Calls Tryz.prog 122 #[.pointer (some ⟨T, 0, none⟩), .int .i64 c, .int .u64 8, .int .u64 v] w _ := cstore_any h c 8 v hv
  go_enter Tryz.func107, Tryz.ntmps107
  go_wp2_with (first | (go_at_call 122; (with_reducible refine hl.mono ?_); rintro e w1 ⟨rfl, ht1⟩))
  go_end0
  exact ⟨rfl, ht1⟩
/-- what become tells -/
def becE (c : Int) : Nat := if thereP c then 0 else 1
/-- what Attach tells, and what is thought of behind it -/
def attE (ws : List Nat) (l : List (Nat × Nat)) (c : Int) : Nat := if thereP c then if cGet ws l c 0 = 0 then 0 else if cGet ws l c 0 = 1 then 7 else 13 else 1
def attL (ws : List Nat) (l : List (Nat × Nat)) (c : Int) : List (Nat × Nat) := if thereP c ∧ cGet ws l c 0 = 0 then cSet ws l c 0 1 else l
/-- what Detach tells, and what is thought of behind it -/
def detE (ws : List Nat) (l : List (Nat × Nat)) (c : Int) : Nat := if thereP c then if cGet ws l c 0 = 1 then if cGet ws l c 8 = 0 then 0 else 11 else 10 else 1
def detL (ws : List Nat) (l : List (Nat × Nat)) (c : Int) : List (Nat × Nat) := if thereP c ∧ cGet ws l c 0 = 1 ∧ cGet ws l c 8 = 0 then cSet ws l c 0 0 else l
end
set_option maxHeartbeats 1000000 in
theorem cload_nil (c : Int) (q : Nat) (w : World) : Calls Tryz.prog 97 #[.pointer none, .int .i64 c, .int .u64 q] w fun e w' => e = .returned (.int .u64 0) ∧ w = w' := by
  have hw := cword_any c q w
  have hl := txload_nil (wordN c q) w
  obtain ⟨n, hn⟩ : ∃ n, wordN c q = n := ⟨_, rfl⟩
  rw [hn] at hw hl
  by_cases hs : slotP c q
  · rw [decide_eq_true hs] at hw
    go_enter Tryz.func97, Tryz.ntmps97
    go_wp2_with (first | (go_at_call 106; (with_reducible refine hw.mono ?_); rintro e w1 ⟨rfl, rfl⟩) | (go_at_call 20; (with_reducible refine hl.mono ?_); rintro e w2 ⟨rfl, rfl⟩))
    go_ret
    exact ⟨rfl, rfl⟩
  · rw [decide_eq_false hs] at hw
    go_enter Tryz.func97, Tryz.ntmps97
    go_wp2_with (first | (go_at_call 106; (with_reducible refine hw.mono ?_); rintro e w1 ⟨rfl, rfl⟩))
    go_ret
    exact ⟨rfl, rfl⟩
set_option maxHeartbeats 1000000 in
theorem cstore_nil (c : Int) (q v : Nat) (w : World) : Calls Tryz.prog 122 #[.pointer none, .int .i64 c, .int .u64 q, .int .u64 v] w fun e w' => e = .returned (.bool (decide (slotP c q))) ∧ w = w' := by
  have hw := cword_any c q w
  have hl := txstore_nil (wordN c q) v w
  obtain ⟨n, hn⟩ : ∃ n, wordN c q = n := ⟨_, rfl⟩
  rw [hn] at hw hl
  by_cases hs : slotP c q
  · rw [decide_eq_true hs] at hw ⊢
    go_enter Tryz.func122, Tryz.ntmps122
    go_wp2_with (first | (go_at_call 106; (with_reducible refine hw.mono ?_); rintro e w1 ⟨rfl, rfl⟩) | (go_at_call 17; (with_reducible refine hl.mono ?_); rintro e w2 ⟨rfl, rfl⟩))
    go_ret
    exact ⟨rfl, rfl⟩
  · rw [decide_eq_false hs] at hw ⊢
    go_enter Tryz.func122, Tryz.ntmps122
    go_wp2_with (first | (go_at_call 106; (with_reducible refine hw.mono ?_); rintro e w1 ⟨rfl, rfl⟩))
    go_ret
    exact ⟨rfl, rfl⟩
theorem chead_nil (c : Int) (w : World) : Calls Tryz.prog 65 #[.pointer none, .int .i64 c] w fun e w' => e = .returned (.int .u64 0) ∧ w = w' := by
  have hl : Calls Tryz.prog 97 #[.pointer none, .int .i64 c, .int .u64 8] w _ := cload_nil c 8 w
  go_enter Tryz.func65, Tryz.ntmps65
  go_wp2_with (first | (go_at_call 97; (with_reducible refine hl.mono ?_); rintro e w1 ⟨rfl, rfl⟩))
  go_ret
  exact ⟨rfl, rfl⟩
theorem cpoint_nil (c : Int) (v : Nat) (w : World) : Calls Tryz.prog 107 #[.pointer none, .int .i64 c, .int .u64 v] w fun e w' => e = .returned (.tuple #[]) ∧ w = w' := by
  have hl : Calls Tryz.prog 122 #[.pointer none, .int .i64 c, .int .u64 8, .int .u64 v] w _ := cstore_nil c 8 v w
  go_enter Tryz.func107, Tryz.ntmps107
  go_wp2_with (first | (go_at_call 122; (with_reducible refine hl.mono ?_); rintro e w1 ⟨rfl, rfl⟩))
  go_end0
  exact ⟨rfl, rfl⟩
end Go.Proofs.YtoamlkljfmgomaaGreat
