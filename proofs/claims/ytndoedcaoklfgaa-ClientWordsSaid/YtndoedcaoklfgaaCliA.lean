/-
  Package client: the contracts of there, Word, load, store, State, Head, Point, become, Attach, Detach, Kill and Clear.
  Conditions: the Tx is nobody's, or stands in memory; the numbers are of 64 bits.
-/
import Derived.Test.YtndoedcaoklfgaaHeadB
namespace Go.Proofs.Ytndoedcaoklfgaa
open Go.RowKit
set_option linter.unusedVariables false
set_option linter.unusedSimpArgs false
set_option maxRecDepth 100000

/-- Is there such a client? -/
def thereP (c : Int) : Prop := 0 ≤ c ∧ c < 8
instance (c : Int) : Decidable (thereP c) := by unfold thereP; infer_instance
/-- Is there such a word of such a client? -/
def slotP (c : Int) (q : Nat) : Prop := thereP c ∧ q % 8 = 0 ∧ q < 416
instance (c : Int) (q : Nat) : Decidable (slotP c q) := by unfold slotP; infer_instance
/-- where it stands -/
def slotN (c : Int) (q : Nat) : Nat := 64 + 416 * c.toNat + q
/-- a word of a client's record -/
def cGet (ws : List Nat) (l : List (Nat × Nat)) (c : Int) (q : Nat) : Nat := if slotP c q then txSee ws l (slotN c q) else 0
/-- what is thought of, when that word is otherwise -/
def cSet (ws : List Nat) (l : List (Nat × Nat)) (c : Int) (q v : Nat) : List (Nat × Nat) := if slotP c q then txStore ws l (slotN c q) v else l
/-- what Word tells -/
def wordN (c : Int) (q : Nat) : Nat := if slotP c q then slotN c q else 0
theorem slot_lt {c : Int} {q : Nat} (h : slotP c q) : slotN c q < 3776 := by unfold slotP thereP at h; unfold slotN; omega
theorem slot_state (c : Int) : slotP c 0 ↔ thereP c := ⟨fun h => h.1, fun h => ⟨h, by decide, by decide⟩⟩
theorem slot_head (c : Int) : slotP c 8 ↔ thereP c := ⟨fun h => h.1, fun h => ⟨h, by decide, by decide⟩⟩
theorem there_any (c : Int) (w : World) : Calls Try.prog 40 #[.int .i64 c] w fun e w' => e = .returned (.bool (decide (thereP c))) ∧ w = w' := by
  by_cases h0 : 0 ≤ c
  · rw [show decide (thereP c) = decide (c < 8) by rw [decide_eq_decide]; unfold thereP; omega]
    go_enter Try.func40, Try.ntmps40
    go_wp2
    go_ret
    exact ⟨rfl, rfl⟩
  · rw [decide_eq_false (show ¬ thereP c by unfold thereP; omega)]
    go_enter Try.func40, Try.ntmps40
    go_wp2
    go_ret
    exact ⟨rfl, rfl⟩
set_option maxHeartbeats 1000000 in
theorem cword_any (c : Int) (q : Nat) (w : World) : Calls Try.prog 22 #[.int .i64 c, .int .u64 q] w fun e w' => e = .returned (.tuple #[.int .u64 (wordN c q : Nat), .bool (decide (slotP c q))]) ∧ w = w' := by
  have ht := there_any c w
  unfold wordN
  by_cases hc : thereP c
  · rw [decide_eq_true hc] at ht
    by_cases h8 : (q : Int) % 8 = 0
    · by_cases hq : (q : Int) < 416
      · have hs : slotP c q := ⟨hc, by omega, by omega⟩
        rw [if_pos hs, decide_eq_true hs]
        obtain ⟨k, rfl⟩ := Int.eq_ofNat_of_zero_le hc.1
        have hk : k < 8 := by have := hc.2; omega
        have e1 : IntKind.u64.wrap (k : Int) = (k : Nat) := by rw [IntKind.wrap_u64]; omega
        have e2 : IntKind.u64.wrap ((k : Int) * 416) = (416 * k : Nat) := by rw [IntKind.wrap_u64]; omega
        have e3 : IntKind.u64.wrap (64 + ((416 * k : Nat) : Int)) = (64 + 416 * k : Nat) := by rw [IntKind.wrap_u64]; omega
        have e4 : IntKind.u64.wrap (((64 + 416 * k : Nat) : Int) + (q : Int)) = (slotN (k : Int) q : Nat) := by rw [IntKind.wrap_u64]; unfold slotN; simp only [Int.toNat_natCast]; omega
        go_enter Try.func22, Try.ntmps22
        go_wp2_with (go_at_call 40; (with_reducible refine ht.mono ?_); rintro e w1 ⟨rfl, rfl⟩)
        refine bodyPost_ret (v := .tuple #[.int .u64 (slotN (k : Int) q : Nat), .bool true]) (by simp [results, Try.results22, go_sem, slotN]) rfl ⟨rfl, rfl⟩
      · have hs : ¬ slotP c q := fun h => by have := h.2.2; omega
        rw [if_neg hs, decide_eq_false hs]
        go_enter Try.func22, Try.ntmps22
        go_wp2_with (go_at_call 40; (with_reducible refine ht.mono ?_); rintro e w1 ⟨rfl, rfl⟩)
        refine bodyPost_ret (v := .tuple #[.int .u64 (0 : Nat), .bool false]) (by simp [results, Try.results22, go_sem]) rfl ⟨rfl, rfl⟩
    · have hs : ¬ slotP c q := fun h => by have := h.2.1; omega
      rw [if_neg hs, decide_eq_false hs]
      go_enter Try.func22, Try.ntmps22
      go_wp2_with (go_at_call 40; (with_reducible refine ht.mono ?_); rintro e w1 ⟨rfl, rfl⟩)
      refine bodyPost_ret (v := .tuple #[.int .u64 (0 : Nat), .bool false]) (by simp [results, Try.results22, go_sem]) rfl ⟨rfl, rfl⟩
  · rw [decide_eq_false hc] at ht
    have hs : ¬ slotP c q := fun h => hc h.1
    rw [if_neg hs, decide_eq_false hs]
    go_enter Try.func22, Try.ntmps22
    go_wp2_with (go_at_call 40; (with_reducible refine ht.mono ?_); rintro e w1 ⟨rfl, rfl⟩)
    refine bodyPost_ret (v := .tuple #[.int .u64 (0 : Nat), .bool false]) (by simp [results, Try.results22, go_sem]) rfl ⟨rfl, rfl⟩
section
variable {w : World} {T M : Nat} {R : Option Nat} {B D : Nat} {ws : List Nat} {l : List (Nat × Nat)}
set_option maxHeartbeats 1000000 in
theorem cload_any (h : Thinks w T M R B D ws l) (c : Int) (q : Nat) : Calls Try.prog 35 #[.pointer (some ⟨T, 0, none⟩), .int .i64 c, .int .u64 q] w fun e w' => e = .returned (.int .u64 (cGet ws l c q : Nat)) ∧ w.grownBy w' none := by
  have hw := cword_any c q w
  unfold wordN at hw
  unfold cGet
  by_cases hs : slotP c q
  · rw [decide_eq_true hs, if_pos hs] at hw
    have hl := txload_any h (slotN c q) (by have := slot_lt hs; omega)
    rw [if_pos hs]
    obtain ⟨n, hn⟩ : ∃ n, slotN c q = n := ⟨_, rfl⟩
    rw [hn] at hw hl ⊢
    go_enter Try.func35, Try.ntmps35
    go_wp2_with (first | (go_at_call 22; (with_reducible refine hw.mono ?_); rintro e w1 ⟨rfl, rfl⟩) | (go_at_call 55; (with_reducible refine hl.mono ?_); rintro e w2 ⟨rfl, hg2⟩))
    go_ret
    exact ⟨rfl, hg2⟩
  · rw [decide_eq_false hs, if_neg hs] at hw
    rw [if_neg hs]
    go_enter Try.func35, Try.ntmps35
    go_wp2_with (first | (go_at_call 22; (with_reducible refine hw.mono ?_); rintro e w1 ⟨rfl, rfl⟩))
    go_ret
    exact ⟨rfl, grown_refl _ _⟩
set_option maxHeartbeats 1000000 in
theorem cstore_any (h : Thinks w T M R B D ws l) (c : Int) (q v : Nat) (hv : v < 18446744073709551616) : Calls Try.prog 42 #[.pointer (some ⟨T, 0, none⟩), .int .i64 c, .int .u64 q, .int .u64 v] w fun e w' => e = .returned (.bool (decide (slotP c q))) ∧ Thought w T M R B D ws (cSet ws l c q v) w' := by
  have hw := cword_any c q w
  unfold wordN at hw
  unfold cSet
  by_cases hs : slotP c q
  · rw [decide_eq_true hs, if_pos hs] at hw
    have hl := txstore_any h (slotN c q) v (by have := slot_lt hs; omega) hv
    rw [if_pos hs, decide_eq_true hs]
    obtain ⟨n, hn⟩ : ∃ n, slotN c q = n := ⟨_, rfl⟩
    rw [hn] at hw hl ⊢
    go_enter Try.func42, Try.ntmps42
    go_wp2_with (first | (go_at_call 22; (with_reducible refine hw.mono ?_); rintro e w1 ⟨rfl, rfl⟩) | (go_at_call 32; (with_reducible refine hl.mono ?_); rintro e w2 ⟨rfl, ht2⟩))
    go_ret
    exact ⟨rfl, ht2⟩
  · rw [decide_eq_false hs, if_neg hs] at hw
    rw [if_neg hs, decide_eq_false hs]
    go_enter Try.func42, Try.ntmps42
    go_wp2_with (first | (go_at_call 22; (with_reducible refine hw.mono ?_); rintro e w1 ⟨rfl, rfl⟩))
    go_ret
    exact ⟨rfl, Thought.same h (grown_refl _ _)⟩
theorem cstate_any (h : Thinks w T M R B D ws l) (c : Int) : Calls Try.prog 14 #[.pointer (some ⟨T, 0, none⟩), .int .i64 c] w fun e w' => e = .returned (.int .u64 (cGet ws l c 0 : Nat)) ∧ w.grownBy w' none := by
  have hl : Calls Try.prog 35 #[.pointer (some ⟨T, 0, none⟩), .int .i64 c, .int .u64 0] w _ := cload_any h c 0
  go_enter Try.func14, Try.ntmps14
  go_wp2_with (first | (go_at_call 35; (with_reducible refine hl.mono ?_); rintro e w1 ⟨rfl, hg1⟩))
  go_ret
  exact ⟨rfl, hg1⟩
theorem chead_any (h : Thinks w T M R B D ws l) (c : Int) : Calls Try.prog 16 #[.pointer (some ⟨T, 0, none⟩), .int .i64 c] w fun e w' => e = .returned (.int .u64 (cGet ws l c 8 : Nat)) ∧ w.grownBy w' none := by
  have hl : Calls Try.prog 35 #[.pointer (some ⟨T, 0, none⟩), .int .i64 c, .int .u64 8] w _ := cload_any h c 8
  go_enter Try.func16, Try.ntmps16
  go_wp2_with (first | (go_at_call 35; (with_reducible refine hl.mono ?_); rintro e w1 ⟨rfl, hg1⟩))
  go_ret
  exact ⟨rfl, hg1⟩
theorem cpoint_any (h : Thinks w T M R B D ws l) (c : Int) (v : Nat) (hv : v < 18446744073709551616) : Calls Try.prog 25 #[.pointer (some ⟨T, 0, none⟩), .int .i64 c, .int .u64 v] w fun e w' => e = .returned (.tuple #[]) ∧ Thought w T M R B D ws (cSet ws l c 8 v) w' := by
  have hl : Calls Try.prog 42 #[.pointer (some ⟨T, 0, none⟩), .int .i64 c, .int .u64 8, .int .u64 v] w _ := cstore_any h c 8 v hv
  go_enter Try.func25, Try.ntmps25
  go_wp2_with (first | (go_at_call 42; (with_reducible refine hl.mono ?_); rintro e w1 ⟨rfl, ht1⟩))
  go_end0
  exact ⟨rfl, ht1⟩
/-- what become tells -/
def becE (c : Int) : Nat := if thereP c then 0 else 1
theorem cbecome_any (h : Thinks w T M R B D ws l) (c : Int) (v : Nat) (hv : v < 18446744073709551616) : Calls Try.prog 41 #[.pointer (some ⟨T, 0, none⟩), .int .i64 c, .int .u64 v] w fun e w' => e = .returned (.int .i64 (becE c : Nat)) ∧ Thought w T M R B D ws (cSet ws l c 0 v) w' := by
  have hl : Calls Try.prog 42 #[.pointer (some ⟨T, 0, none⟩), .int .i64 c, .int .u64 0, .int .u64 v] w _ := cstore_any h c 0 v hv
  unfold becE
  by_cases hc : thereP c
  · rw [decide_eq_true ((slot_state c).2 hc)] at hl
    rw [if_pos hc]
    go_enter Try.func41, Try.ntmps41
    go_wp2_with (first | (go_at_call 42; (with_reducible refine hl.mono ?_); rintro e w1 ⟨rfl, ht1⟩))
    go_ret
    exact ⟨rfl, ht1⟩
  · rw [decide_eq_false (fun h => hc ((slot_state c).1 h))] at hl
    rw [if_neg hc]
    go_enter Try.func41, Try.ntmps41
    go_wp2_with (first | (go_at_call 42; (with_reducible refine hl.mono ?_); rintro e w1 ⟨rfl, ht1⟩))
    go_ret
    exact ⟨rfl, ht1⟩
theorem ckill_any (h : Thinks w T M R B D ws l) (c : Int) : Calls Try.prog 27 #[.pointer (some ⟨T, 0, none⟩), .int .i64 c] w fun e w' => e = .returned (.int .i64 (becE c : Nat)) ∧ Thought w T M R B D ws (cSet ws l c 0 2) w' := by
  have hl : Calls Try.prog 41 #[.pointer (some ⟨T, 0, none⟩), .int .i64 c, .int .u64 2] w _ := cbecome_any h c 2 (by decide)
  go_enter Try.func27, Try.ntmps27
  go_wp2_with (first | (go_at_call 41; (with_reducible refine hl.mono ?_); rintro e w1 ⟨rfl, ht1⟩))
  go_ret
  exact ⟨rfl, ht1⟩
theorem cclear_any (h : Thinks w T M R B D ws l) (c : Int) : Calls Try.prog 34 #[.pointer (some ⟨T, 0, none⟩), .int .i64 c] w fun e w' => e = .returned (.int .i64 (becE c : Nat)) ∧ Thought w T M R B D ws (cSet ws l c 0 0) w' := by
  have hl : Calls Try.prog 41 #[.pointer (some ⟨T, 0, none⟩), .int .i64 c, .int .u64 0] w _ := cbecome_any h c 0 (by decide)
  go_enter Try.func34, Try.ntmps34
  go_wp2_with (first | (go_at_call 41; (with_reducible refine hl.mono ?_); rintro e w1 ⟨rfl, ht1⟩))
  go_ret
  exact ⟨rfl, ht1⟩
/-- what Attach tells, and what is thought of behind it -/
def attE (ws : List Nat) (l : List (Nat × Nat)) (c : Int) : Nat := if thereP c then if cGet ws l c 0 = 0 then 0 else if cGet ws l c 0 = 1 then 7 else 13 else 1
def attL (ws : List Nat) (l : List (Nat × Nat)) (c : Int) : List (Nat × Nat) := if thereP c ∧ cGet ws l c 0 = 0 then cSet ws l c 0 1 else l
set_option maxHeartbeats 1000000 in
theorem cattach_any (h : Thinks w T M R B D ws l) (c : Int) : Calls Try.prog 24 #[.pointer (some ⟨T, 0, none⟩), .int .i64 c] w fun e w' => e = .returned (.int .i64 (attE ws l c : Nat)) ∧ Thought w T M R B D ws (attL ws l c) w' := by
  have ht := there_any c w
  have hs := cstate_any h c
  have hb := fun (w2 : World) (hg : w.grownBy w2 none) => cbecome_any (h.later hg) c 1 (by decide)
  replace hb : ∀ (w2 : World) (hg : w.grownBy w2 none), Calls Try.prog 41 #[.pointer (some ⟨T, 0, none⟩), .int .i64 c, .int .u64 1] w2 _ := hb
  unfold attE attL
  by_cases hc : thereP c
  · rw [decide_eq_true hc] at ht
    rw [show becE c = 0 from if_pos hc] at hb
    rw [if_pos hc]
    by_cases h0 : cGet ws l c 0 = 0
    · rw [if_pos h0, if_pos ⟨hc, h0⟩]
      rw [h0] at hs
      go_enter Try.func24, Try.ntmps24
      go_wp2_with (first | (go_at_call 40; (with_reducible refine ht.mono ?_); rintro e w1 ⟨rfl, rfl⟩) | (go_at_call 14; (with_reducible refine hs.mono ?_); rintro e w2 ⟨rfl, hg2⟩) | (go_at_call 41; (with_reducible refine (hb _ hg2).mono ?_); rintro e w3 ⟨rfl, ht3⟩))
      go_ret
      exact ⟨rfl, Thought.first hg2 ht3⟩
    · rw [if_neg h0, if_neg (show ¬ (thereP c ∧ cGet ws l c 0 = 0) from fun h => h0 h.2)]
      by_cases h1 : cGet ws l c 0 = 1
      · rw [if_pos h1]
        rw [h1] at hs
        go_enter Try.func24, Try.ntmps24
        go_wp2_with (first | (go_at_call 40; (with_reducible refine ht.mono ?_); rintro e w1 ⟨rfl, rfl⟩) | (go_at_call 14; (with_reducible refine hs.mono ?_); rintro e w2 ⟨rfl, hg2⟩))
        go_ret
        exact ⟨rfl, Thought.same h hg2⟩
      · rw [if_neg h1]
        obtain ⟨x, hx⟩ : ∃ x, cGet ws l c 0 = x := ⟨_, rfl⟩
        rw [hx] at hs h0 h1
        have h0' : ¬ (x : Int) = 0 := by omega
        have h1' : ¬ (x : Int) = 1 := by omega
        go_enter Try.func24, Try.ntmps24
        go_wp2_with (first | (go_at_call 40; (with_reducible refine ht.mono ?_); rintro e w1 ⟨rfl, rfl⟩) | (go_at_call 14; (with_reducible refine hs.mono ?_); rintro e w2 ⟨rfl, hg2⟩))
        go_ret
        exact ⟨rfl, Thought.same h hg2⟩
  · rw [decide_eq_false hc] at ht
    rw [if_neg hc, if_neg (fun h => hc h.1)]
    go_enter Try.func24, Try.ntmps24
    go_wp2_with (first | (go_at_call 40; (with_reducible refine ht.mono ?_); rintro e w1 ⟨rfl, rfl⟩))
    go_ret
    exact ⟨rfl, Thought.same h (grown_refl _ _)⟩
/-- what Detach tells, and what is thought of behind it -/
def detE (ws : List Nat) (l : List (Nat × Nat)) (c : Int) : Nat := if thereP c then if cGet ws l c 0 = 1 then if cGet ws l c 8 = 0 then 0 else 11 else 10 else 1
def detL (ws : List Nat) (l : List (Nat × Nat)) (c : Int) : List (Nat × Nat) := if thereP c ∧ cGet ws l c 0 = 1 ∧ cGet ws l c 8 = 0 then cSet ws l c 0 0 else l
set_option maxHeartbeats 1000000 in
theorem cdetach_any (h : Thinks w T M R B D ws l) (c : Int) : Calls Try.prog 26 #[.pointer (some ⟨T, 0, none⟩), .int .i64 c] w fun e w' => e = .returned (.int .i64 (detE ws l c : Nat)) ∧ Thought w T M R B D ws (detL ws l c) w' := by
  have ht := there_any c w
  have hs := cstate_any h c
  have hh := fun (w2 : World) (hg : w.grownBy w2 none) => chead_any (h.later hg) c
  have hb := fun (w2 : World) (hg : w.grownBy w2 none) => cbecome_any (h.later hg) c 0 (by decide)
  replace hb : ∀ (w2 : World) (hg : w.grownBy w2 none), Calls Try.prog 41 #[.pointer (some ⟨T, 0, none⟩), .int .i64 c, .int .u64 0] w2 _ := hb
  unfold detE detL
  by_cases hc : thereP c
  · rw [decide_eq_true hc] at ht
    rw [show becE c = 0 from if_pos hc] at hb
    rw [if_pos hc]
    by_cases h1 : cGet ws l c 0 = 1
    · rw [if_pos h1]
      rw [h1] at hs
      by_cases h0 : cGet ws l c 8 = 0
      · rw [if_pos h0, if_pos ⟨hc, h1, h0⟩]
        rw [h0] at hh
        go_enter Try.func26, Try.ntmps26
        go_wp2_with (first | (go_at_call 40; (with_reducible refine ht.mono ?_); rintro e w1 ⟨rfl, rfl⟩) | (go_at_call 14; (with_reducible refine hs.mono ?_); rintro e w2 ⟨rfl, hg2⟩) | (go_at_call 16; (with_reducible refine (hh _ hg2).mono ?_); rintro e w3 ⟨rfl, hg3⟩) | (go_at_call 41; (with_reducible refine (hb _ (grown_trans hg2 hg3)).mono ?_); rintro e w4 ⟨rfl, ht4⟩))
        go_ret
        exact ⟨rfl, Thought.first (grown_trans hg2 hg3) ht4⟩
      · rw [if_neg h0, if_neg (show ¬ (thereP c ∧ cGet ws l c 0 = 1 ∧ cGet ws l c 8 = 0) from fun h => h0 h.2.2)]
        obtain ⟨x, hx⟩ : ∃ x, cGet ws l c 8 = x := ⟨_, rfl⟩
        rw [hx] at hh h0
        have h0' : ¬ (x : Int) = 0 := by omega
        go_enter Try.func26, Try.ntmps26
        go_wp2_with (first | (go_at_call 40; (with_reducible refine ht.mono ?_); rintro e w1 ⟨rfl, rfl⟩) | (go_at_call 14; (with_reducible refine hs.mono ?_); rintro e w2 ⟨rfl, hg2⟩) | (go_at_call 16; (with_reducible refine (hh _ hg2).mono ?_); rintro e w3 ⟨rfl, hg3⟩))
        go_ret
        exact ⟨rfl, Thought.same h (grown_trans hg2 hg3)⟩
    · rw [if_neg h1, if_neg (show ¬ (thereP c ∧ cGet ws l c 0 = 1 ∧ cGet ws l c 8 = 0) from fun h => h1 h.2.1)]
      obtain ⟨x, hx⟩ : ∃ x, cGet ws l c 0 = x := ⟨_, rfl⟩
      rw [hx] at hs h1
      have h1' : ¬ (x : Int) = 1 := by omega
      go_enter Try.func26, Try.ntmps26
      go_wp2_with (first | (go_at_call 40; (with_reducible refine ht.mono ?_); rintro e w1 ⟨rfl, rfl⟩) | (go_at_call 14; (with_reducible refine hs.mono ?_); rintro e w2 ⟨rfl, hg2⟩))
      go_ret
      exact ⟨rfl, Thought.same h hg2⟩
  · rw [decide_eq_false hc] at ht
    rw [if_neg hc, if_neg (fun h => hc h.1)]
    go_enter Try.func26, Try.ntmps26
    go_wp2_with (first | (go_at_call 40; (with_reducible refine ht.mono ?_); rintro e w1 ⟨rfl, rfl⟩))
    go_ret
    exact ⟨rfl, Thought.same h (grown_refl _ _)⟩
end
set_option maxHeartbeats 1000000 in
theorem cload_nil (c : Int) (q : Nat) (w : World) : Calls Try.prog 35 #[.pointer none, .int .i64 c, .int .u64 q] w fun e w' => e = .returned (.int .u64 0) ∧ w = w' := by
  have hw := cword_any c q w
  have hl := txload_nil (wordN c q) w
  obtain ⟨n, hn⟩ : ∃ n, wordN c q = n := ⟨_, rfl⟩
  rw [hn] at hw hl
  by_cases hs : slotP c q
  · rw [decide_eq_true hs] at hw
    go_enter Try.func35, Try.ntmps35
    go_wp2_with (first | (go_at_call 22; (with_reducible refine hw.mono ?_); rintro e w1 ⟨rfl, rfl⟩) | (go_at_call 55; (with_reducible refine hl.mono ?_); rintro e w2 ⟨rfl, rfl⟩))
    go_ret
    exact ⟨rfl, rfl⟩
  · rw [decide_eq_false hs] at hw
    go_enter Try.func35, Try.ntmps35
    go_wp2_with (first | (go_at_call 22; (with_reducible refine hw.mono ?_); rintro e w1 ⟨rfl, rfl⟩))
    go_ret
    exact ⟨rfl, rfl⟩
set_option maxHeartbeats 1000000 in
theorem cstore_nil (c : Int) (q v : Nat) (w : World) : Calls Try.prog 42 #[.pointer none, .int .i64 c, .int .u64 q, .int .u64 v] w fun e w' => e = .returned (.bool (decide (slotP c q))) ∧ w = w' := by
  have hw := cword_any c q w
  have hl := txstore_nil (wordN c q) v w
  obtain ⟨n, hn⟩ : ∃ n, wordN c q = n := ⟨_, rfl⟩
  rw [hn] at hw hl
  by_cases hs : slotP c q
  · rw [decide_eq_true hs] at hw ⊢
    go_enter Try.func42, Try.ntmps42
    go_wp2_with (first | (go_at_call 22; (with_reducible refine hw.mono ?_); rintro e w1 ⟨rfl, rfl⟩) | (go_at_call 32; (with_reducible refine hl.mono ?_); rintro e w2 ⟨rfl, rfl⟩))
    go_ret
    exact ⟨rfl, rfl⟩
  · rw [decide_eq_false hs] at hw ⊢
    go_enter Try.func42, Try.ntmps42
    go_wp2_with (first | (go_at_call 22; (with_reducible refine hw.mono ?_); rintro e w1 ⟨rfl, rfl⟩))
    go_ret
    exact ⟨rfl, rfl⟩
theorem cstate_nil (c : Int) (w : World) : Calls Try.prog 14 #[.pointer none, .int .i64 c] w fun e w' => e = .returned (.int .u64 0) ∧ w = w' := by
  have hl : Calls Try.prog 35 #[.pointer none, .int .i64 c, .int .u64 0] w _ := cload_nil c 0 w
  go_enter Try.func14, Try.ntmps14
  go_wp2_with (first | (go_at_call 35; (with_reducible refine hl.mono ?_); rintro e w1 ⟨rfl, rfl⟩))
  go_ret
  exact ⟨rfl, rfl⟩
theorem chead_nil (c : Int) (w : World) : Calls Try.prog 16 #[.pointer none, .int .i64 c] w fun e w' => e = .returned (.int .u64 0) ∧ w = w' := by
  have hl : Calls Try.prog 35 #[.pointer none, .int .i64 c, .int .u64 8] w _ := cload_nil c 8 w
  go_enter Try.func16, Try.ntmps16
  go_wp2_with (first | (go_at_call 35; (with_reducible refine hl.mono ?_); rintro e w1 ⟨rfl, rfl⟩))
  go_ret
  exact ⟨rfl, rfl⟩
theorem cpoint_nil (c : Int) (v : Nat) (w : World) : Calls Try.prog 25 #[.pointer none, .int .i64 c, .int .u64 v] w fun e w' => e = .returned (.tuple #[]) ∧ w = w' := by
  have hl : Calls Try.prog 42 #[.pointer none, .int .i64 c, .int .u64 8, .int .u64 v] w _ := cstore_nil c 8 v w
  go_enter Try.func25, Try.ntmps25
  go_wp2_with (first | (go_at_call 42; (with_reducible refine hl.mono ?_); rintro e w1 ⟨rfl, rfl⟩))
  go_end0
  exact ⟨rfl, rfl⟩
theorem cdetach_nil (c : Int) (w : World) : Calls Try.prog 26 #[.pointer none, .int .i64 c] w fun e w' => e = .returned (.int .i64 (if thereP c then 10 else 1 : Nat)) ∧ w = w' := by
  have ht := there_any c w
  have hs := cstate_nil c w
  by_cases hc : thereP c
  · rw [decide_eq_true hc] at ht
    rw [if_pos hc]
    go_enter Try.func26, Try.ntmps26
    go_wp2_with (first | (go_at_call 40; (with_reducible refine ht.mono ?_); rintro e w1 ⟨rfl, rfl⟩) | (go_at_call 14; (with_reducible refine hs.mono ?_); rintro e w2 ⟨rfl, rfl⟩))
    go_ret
    exact ⟨rfl, rfl⟩
  · rw [decide_eq_false hc] at ht
    rw [if_neg hc]
    go_enter Try.func26, Try.ntmps26
    go_wp2_with (first | (go_at_call 40; (with_reducible refine ht.mono ?_); rintro e w1 ⟨rfl, rfl⟩))
    go_ret
    exact ⟨rfl, rfl⟩
end Go.Proofs.Ytndoedcaoklfgaa
