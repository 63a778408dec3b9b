/-
  The contract of the plain answer Check.
  Conditions: the words are a row of the call's own, or nil.
-/
import Derived.Test.YtkpopaadkfgjaaaHeadB
import Derived.Test.YtkpopaadkfgjaaaTxMath
import Derived.Deep.QuietTactic
import Derived.BigQuiet
namespace Go.Proofs.Ytkpopaadkfgjaaa
open Go.RowKit
set_option linter.unusedVariables false
set_option linter.unusedSimpArgs false

theorem see_nil (ws : List Nat) (off : Nat) : txSee ws [] off = getW ws off := rfl
theorem getW_at {ws : List Nat} (q : Nat) (h : q < ws.length) : getW ws (8 * q) = ws.getD q 0 := by
  unfold getW
  rw [if_pos ⟨by omega, by omega⟩, show 8 * q / 8 = q by omega]
set_option maxRecDepth 100000 in
set_option maxHeartbeats 2000000 in
theorem rcheck_any {w : World} {base : Nat} {v : Value} {ws : List Nat} (h : OwnW w base v ws) (hm : ws.length ≤ 131072) (hlt : ∀ x ∈ ws, x < 18446744073709551616) :
    Calls Try.prog 72 #[v] w fun e w' => e = .returned (.int .i64 (chkN ws [] : Nat)) ∧ w.grownBy w' none := by
  have hY : (fitsP (getW ws 16) (8 * ws.length) ∧ getW ws 0 = 7161130718081542961 ∧ getW ws 8 = 1 ∧ getW ws 40 = sumN (getW ws 16)) → chkN ws [] = 0 := fun h => if_pos h
  have hN : ¬ (fitsP (getW ws 16) (8 * ws.length) ∧ getW ws 0 = 7161130718081542961 ∧ getW ws 8 = 1 ∧ getW ws 40 = sumN (getW ws 16)) → chkN ws [] = 12 := fun h => if_neg h
  obtain ⟨a, c, g, rfl, ha, hat⟩ := h.addr
  obtain ⟨cc, ec⟩ : ∃ x, chkN ws [] = x := ⟨_, rfl⟩
  rw [ec] at hY hN ⊢
  clear ec
  by_cases h6 : ws.length < 6
  · obtain rfl := hN (fun hh => by have := hh.1.2.1; have := hh.1.2.2; omega)
    clear hat ha hY hN
    obtain ⟨n, hn⟩ : ∃ n, ws.length = n := ⟨_, rfl⟩
    rw [hn] at h6 hm ⊢
    clear h hn
    have h6' : (n : Int) < 6 := by omega
    go_enter Try.func72, Try.ntmps72
    go_wp2
    go_quiet (fail)
    go_wp2
    go_ret
    exact ⟨rfl, grown_drewN _ _⟩
  · rw [show getW ws 0 = ws.getD 0 0 from getW_at 0 (by omega), show getW ws 8 = ws.getD 1 0 from getW_at 1 (by omega), show getW ws 16 = ws.getD 2 0 from getW_at 2 (by omega), show getW ws 40 = ws.getD 5 0 from getW_at 5 (by omega)] at hY hN
    obtain rfl := ha (by omega)
    have c0 := hat _ h 0 (by omega)
    have c1 := hat _ h 1 (by omega)
    have c2 := hat _ h 2 (by omega)
    have c5 := hat _ h 5 (by omega)
    have b2 := getD_lt hlt 2
    obtain ⟨x0, e0⟩ : ∃ x, ws.getD 0 0 = x := ⟨_, rfl⟩
    obtain ⟨x1, e1⟩ : ∃ x, ws.getD 1 0 = x := ⟨_, rfl⟩
    obtain ⟨x2, e2⟩ : ∃ x, ws.getD 2 0 = x := ⟨_, rfl⟩
    obtain ⟨x5, e5⟩ : ∃ x, ws.getD 5 0 = x := ⟨_, rfl⟩
    rw [e0, e1, e2, e5] at hY hN
    rw [e0] at c0
    rw [e1] at c1
    rw [e2] at c2 b2
    rw [e5] at c5
    have hf := fun w => rfits_any x2 (8 * ws.length) w
    have hs := fun w => rsum_any x2 b2 w
    obtain ⟨sm, es⟩ : ∃ x, sumN x2 = x := ⟨_, rfl⟩
    rw [es] at hY hN
    simp only [es] at hs
    obtain ⟨n, hn⟩ : ∃ n, ws.length = n := ⟨_, rfl⟩
    rw [hn] at hf hY hN h6 hm ⊢
    have h6' : decide ((n : Int) < 6) = false := decide_eq_false (by omega)
    have h0n : (0 : Int) < n := by omega
    have h1n : (1 : Int) < n := by omega
    have h2n : (2 : Int) < n := by omega
    have h5n : (5 : Int) < n := by omega
    obtain ⟨n8, hn8⟩ : ∃ n8, 8 * n = n8 := ⟨_, rfl⟩
    rw [hn8] at hf hY hN
    have e7 : IntKind.u64.wrap (n : Int) = (n : Int) := by rw [IntKind.wrap_u64]; omega
    have e8 : IntKind.u64.wrap (8 * (n : Int)) = (n8 : Nat) := by rw [IntKind.wrap_u64]; omega
    clear e0 e1 e2 e5 es hat hlt h ha hn hn8 b2
    rcases Nat.decEq x0 7161130718081542961 with d0 | d0
    · obtain rfl := hN (fun hh => d0 hh.2.1)
      have k0 : ((x0 : Int) != 7161130718081542961) = true := by rw [bne_iff_ne]; omega
      clear hY hN
      go_enter Try.func72, Try.ntmps72
      go_wp2
      go_quiet (first | (go_at_call 45; exact Calls.quiet_of_same ((hf _).mono fun e w' ⟨h1, h2⟩ => ⟨h1, h2.symm⟩)) | (go_at_call 46; exact Calls.quiet_of_same ((hs _).mono fun e w' ⟨h1, h2⟩ => ⟨h1, h2.symm⟩)))
      go_wp2
      go_ret
      exact ⟨rfl, grown_drewN _ _⟩
    · have k0 : ((x0 : Int) != 7161130718081542961) = false := by rw [bne_eq_false_iff_eq]; omega
      rcases Nat.decEq x1 1 with d1 | d1
      · obtain rfl := hN (fun hh => d1 hh.2.2.1)
        have k1 : ((x1 : Int) != 1) = true := by rw [bne_iff_ne]; omega
        clear hY hN
        go_enter Try.func72, Try.ntmps72
        go_wp2
        go_quiet (first | (go_at_call 45; exact Calls.quiet_of_same ((hf _).mono fun e w' ⟨h1, h2⟩ => ⟨h1, h2.symm⟩)) | (go_at_call 46; exact Calls.quiet_of_same ((hs _).mono fun e w' ⟨h1, h2⟩ => ⟨h1, h2.symm⟩)))
        go_wp2
        go_ret
        exact ⟨rfl, grown_drewN _ _⟩
      · have k1 : ((x1 : Int) != 1) = false := by rw [bne_eq_false_iff_eq]; omega
        by_cases d2 : fitsP x2 n8
        · rw [decide_eq_true d2] at hf
          rcases Nat.decEq x5 sm with d3 | d3
          · obtain rfl := hN (fun hh => d3 hh.2.2.2)
            have k3 : ((x5 : Int) != (sm : Int)) = true := by rw [bne_iff_ne]; omega
            clear hY hN
            go_enter Try.func72, Try.ntmps72
            go_wp2
            go_quiet (first | (go_at_call 45; exact Calls.quiet_of_same ((hf _).mono fun e w' ⟨h1, h2⟩ => ⟨h1, h2.symm⟩)) | (go_at_call 46; exact Calls.quiet_of_same ((hs _).mono fun e w' ⟨h1, h2⟩ => ⟨h1, h2.symm⟩)))
            go_wp2
            go_ret
            exact ⟨rfl, grown_drewN _ _⟩
          · obtain rfl := hY ⟨d2, d0, d1, d3⟩
            have k3 : ((x5 : Int) != (sm : Int)) = false := by rw [bne_eq_false_iff_eq]; omega
            clear hY hN
            go_enter Try.func72, Try.ntmps72
            go_wp2
            go_quiet (first | (go_at_call 45; exact Calls.quiet_of_same ((hf _).mono fun e w' ⟨h1, h2⟩ => ⟨h1, h2.symm⟩)) | (go_at_call 46; exact Calls.quiet_of_same ((hs _).mono fun e w' ⟨h1, h2⟩ => ⟨h1, h2.symm⟩)))
            go_wp2
            go_ret
            exact ⟨rfl, grown_drewN _ _⟩
        · rw [decide_eq_false d2] at hf
          obtain rfl := hN (fun hh => d2 hh.1)
          clear hY hN
          go_enter Try.func72, Try.ntmps72
          go_wp2
          go_quiet (first | (go_at_call 45; exact Calls.quiet_of_same ((hf _).mono fun e w' ⟨h1, h2⟩ => ⟨h1, h2.symm⟩)) | (go_at_call 46; exact Calls.quiet_of_same ((hs _).mono fun e w' ⟨h1, h2⟩ => ⟨h1, h2.symm⟩)))
          go_wp2
          go_ret
          exact ⟨rfl, grown_drewN _ _⟩
end Go.Proofs.Ytkpopaadkfgjaaa
