/-
  What all statements of layer 4 ask first (awake) is true; all words of a segment.
  No condition.
-/
import Derived.Test.YtojkebnjohanaaaHeadD
import Derived.Test.YtojkebnjohanaaaHeadE
namespace Go.Proofs.Ytojkebnjohanaaa
open Go.RowKit
set_option linter.unusedVariables false
set_option linter.unusedSimpArgs false

theorem chk_fmt {K n : Nat} (h : fitsP n (8 * K)) : chkP (fmtW K n) [] := by
  have h2 := h.2.1
  have e0 : txSee (fmtW K n) [] 0 = 7161130718081542961 := by rw [see_nil, getW_fmt h]; simp; omega
  have e1 : txSee (fmtW K n) [] 8 = 1 := by rw [see_nil, getW_fmt h]; simp; omega
  have e2 : txSee (fmtW K n) [] 16 = n := by rw [see_nil, getW_fmt h]; simp; omega
  have e5 : txSee (fmtW K n) [] 40 = sumN n := by rw [see_nil, getW_fmt h]; simp; omega
  unfold chkP
  rw [e0, e1, e2, e5, fmtW_len]
  exact ⟨h, rfl, rfl, rfl⟩
theorem fmt_yes {ws : List Nat} {n : Nat} (h : fitsP n (8 * ws.length)) : fmt ws n = fmtW ws.length n ∧ fmtE ws n = 0 := ⟨if_pos h, if_pos h⟩
theorem fmt_no {ws : List Nat} {n : Nat} (h : ¬ fitsP n (8 * ws.length)) : fmt ws n = ws ∧ fmtE ws n = 2 := ⟨if_neg h, if_neg h⟩
theorem fmt_len (ws : List Nat) (n : Nat) : (fmt ws n).length = ws.length := by unfold fmt; split; exact fmtW_len _ _; rfl
/-- the words that 'awake' makes -/
theorem aw4_words : ∃ ws, fmtW 512 4000 = ws ∧ ws.length = 512 ∧ txSee ws [] 16 = 4000 ∧ txSee ws [] 32 = 3776 ∧ chkN ws [] = 0 ∧ txSee ws [] 3776 = 224 ∧ txSee ws [] 3992 = 224 := by
  have h : fitsP 4000 (8 * 512) := by unfold fitsP; omega
  refine ⟨_, rfl, fmtW_len _ _, ?_, ?_, if_pos (chk_fmt h), ?_, ?_⟩ <;> rw [see_nil, getW_fmt h] <;> rfl
theorem aw4_new (w : World) : Calls Try.prog 10 #[.int .u64 4096] w fun e w' => e = .returned (.pointer (some ⟨w.heap.size + 1, 0, none⟩)) ∧ w.grownBy w' none ∧ IsSeg w' (w.heap.size + 1) w.heap.size (List.replicate 512 0) := new_yes 512 (by decide) (by decide) w
theorem aw4_format {w : World} {B D : Nat} (h : IsSeg w B D (List.replicate 512 0)) : Calls Try.prog 11 #[.pointer (some ⟨B, 0, none⟩), .int .u64 4000] w fun e w' => e = .returned (.int .i64 0) ∧ w.grownBy w' (some D) ∧ IsSeg w' B D (fmtW 512 4000) := by
  have hf : fitsP 4000 (8 * (List.replicate 512 0).length) := by rw [List.length_replicate]; unfold fitsP; omega
  refine (format_any h 4000 (by decide)).mono ?_
  rintro e w' ⟨rfl, hg, hs⟩
  rw [(fmt_yes hf).1, List.length_replicate] at hs
  rw [(fmt_yes hf).2]
  exact ⟨rfl, hg, hs⟩
set_option maxHeartbeats 1000000 in
theorem awake4 (w : World) : Calls Try.prog 9 #[] w fun e w' => e = .returned (.bool true) ∧ w.grownBy w' none := by
  have hfm := fun (w : World) (B D : Nat) (h : IsSeg w B D (List.replicate 512 0)) => aw4_format h
  obtain ⟨ws, ews, hl, e16, e32, ec, e37, e39⟩ := aw4_words
  rw [ews] at hfm
  clear ews
  have h16 := fun (w : World) (T M : Nat) (R : Option Nat) (B D : Nat) (h : Thinks w T M R B D ws []) => hsize_any h
  have h32 := fun (w : World) (T M : Nat) (R : Option Nat) (B D : Nat) (h : Thinks w T M R B D ws []) => hroot_any h
  have hck := fun (w : World) (T M : Nat) (R : Option Nat) (B D : Nat) (h : Thinks w T M R B D ws []) => hcheck_any h
  have h37 : ∀ (w : World) (T M : Nat) (R : Option Nat) (B D : Nat) (h : Thinks w T M R B D ws []), Calls Try.prog 24 #[.pointer (some ⟨T, 0, none⟩), .int .u64 3776] w _ := fun (w : World) (T M : Nat) (R : Option Nat) (B D : Nat) (h : Thinks w T M R B D ws []) => txload_any h 3776 (by decide)
  have h39 : ∀ (w : World) (T M : Nat) (R : Option Nat) (B D : Nat) (h : Thinks w T M R B D ws []), Calls Try.prog 24 #[.pointer (some ⟨T, 0, none⟩), .int .u64 3992] w _ := fun (w : World) (T M : Nat) (R : Option Nat) (B D : Nat) (h : Thinks w T M R B D ws []) => txload_any h 3992 (by decide)
  rw [e16] at h16
  rw [e32] at h32
  rw [ec] at hck
  rw [e37] at h37
  rw [e39] at h39
  clear e16 e32 ec e37 e39
  go_enter Try.func9, Try.ntmps9
  go_wp2_with (first | (go_at_call 10; ((with_reducible refine (aw4_new _).mono ?_); rintro e w1 ⟨rfl, hg1, hs1⟩)) | (go_at_call 11; ((with_reducible refine (hfm _ _ _ hs1).mono ?_); rintro e w2 ⟨rfl, hg2, hs2⟩)) | (go_at_call 19; ((with_reducible refine (txnew_yes hs2).mono ?_); rintro e w3 ⟨rfl, hg3, ht3⟩)) | (go_at_call 27; ((with_reducible refine (h16 _ _ _ _ _ _ ht3).mono ?_); rintro e w4 ⟨rfl, hg4⟩; have ht4 := ht3.later hg4)) | (go_at_call 28; ((with_reducible refine (h32 _ _ _ _ _ _ ht4).mono ?_); rintro e w5 ⟨rfl, hg5⟩; have ht5 := ht4.later hg5)) | (go_at_call 21; ((with_reducible refine (hck _ _ _ _ _ _ ht5).mono ?_); rintro e w6 ⟨rfl, hg6⟩; have ht6 := ht5.later hg6)) | (go_at_call 24; ((with_reducible refine (h37 _ _ _ _ _ _ ht6).mono ?_); rintro e w7 ⟨rfl, hg7⟩; have ht7 := ht6.later hg7)) | (go_at_call 24; ((with_reducible refine (h39 _ _ _ _ _ _ ht7).mono ?_); rintro e w8 ⟨rfl, hg8⟩)))
  go_ret
  refine ⟨rfl, ?_⟩
  exact grown_trans (grown_new (grown_trans (grown_any hg1 _) hg2) (Nat.le_refl _)) (grown_trans hg3 (grown_trans hg4 (grown_trans hg5 (grown_trans hg6 (grown_trans hg7 hg8)))))
/-! ### words -/
set_option maxHeartbeats 1000000 in
theorem words4_any {w : World} {B D : Nat} {ws : List Nat} (h : IsSeg w B D ws) (hl : ws.length ≤ 2500) :
    Calls Try.prog 14 #[.pointer (some ⟨B, 0, none⟩)] w fun e w' => ∃ v, e = .returned v ∧ OwnW w' w.heap.size v ws ∧ w.grownBy w' none := by
  have hall := Lib.hid (firstW_all ws)
  have hz := fun (w1 : World) (hg : w.grownBy w1 none) => size_any (.inr ⟨B, D, rfl, h.later hg⟩)
  obtain ⟨L, hL⟩ : ∃ L, ws.length = L := ⟨_, rfl⟩
  obtain ⟨al, hal⟩ : ∃ al, 8 * ws.length = al := ⟨_, rfl⟩
  simp only [hal] at hz
  have hal20 : al ≤ 20000 := by omega
  have HA := Lib.hid hal
  clear hal hL
  go_enter Try.func14, Try.ntmps14
  go_wp2
  go_loopw [3, 4] (fun v i wr => ∃ k off : Nat, k ≤ ws.length ∧ Hid (off = 8 * k) ∧ i = .int .u64 off ∧ OwnW wr w.heap.size v (firstW ws k) ∧ w.grownBy wr none) (fun _ i _ => al - (intOf i).toNat)
  case atStart => exact ⟨0, 0, Nat.zero_le _, Lib.hid rfl, rfl, World.ownsRow_nil _ _ _ _, grown_refl _ _⟩
  case round =>
    obtain ⟨k, off, hk, HO, rfl, hown, hgr⟩ := hrel
    have hoff := HO.out
    have hala := HA.out
    by_cases hlt : off < al
    · have hcl := load_any (.inr ⟨B, D, rfl, h.later hgr⟩) off (by omega)
      have hkl : k < ws.length := by omega
      have hlen := firstW_len ws k
      have HL := Lib.hid hlen
      have hstep := firstW_step ws k
      rw [← hoff] at hstep
      have HS := Lib.hid hstep
      have hb := hgr.size
      have hlt' : (off : Int) < (al : Int) := by omega
      have hlt2 : (off : Int) < 20000 := by omega
      clear hoff hstep hlen hala
      go_wp2_with (first | (go_at_call 33; (with_reducible refine (hz _ hgr).mono ?_); rintro e w2 ⟨rfl, rfl⟩) | (go_at_call 38; refine hcl.mono ?_; rintro e w1 ⟨rfl, hg1⟩; have hown1 : w1.ownsRow w.heap.size 22 1 _ _ _ := hown.later hg1; have hb1 := (grown_trans hgr hg1).size) | (at_builtin; go_must (refine wpList_append_u64 rfl _ _ rfl w.heap.size _ _ _ rfl hown1 _ rfl (by rw [HL.out]; omega) hb1 ?_); intro v' w3 hown3 hg4))
      go_roundw
      case rel =>
        refine ⟨k + 1, off + 8, by omega, Lib.hid (by have := HO.out; omega), by go_num, ?_, ?_⟩
        · rw [HS.out]
          unfold OwnW
          rw [List.length_append]
          simpa [cellsU] using hown3
        · exact grown_step (grown_trans (grown_trans hgr hg1) (World.grownBy_alloc _ _ none)) hg4 (fun i hi => .inl (hown1.lt i hi).1)
      case measure => simp [intOf]; omega
    · obtain rfl : k = ws.length := by omega
      have hlt' : ¬ (off : Int) < (al : Int) := by omega
      clear hoff hala
      rw [hall.out] at hown
      go_wp2_with (go_at_call 33; (with_reducible refine (hz _ hgr).mono ?_); rintro e w2 ⟨rfl, rfl⟩)
      go_ret
      exact ⟨_, rfl, hown, hgr⟩
theorem words4_nil (w : World) : Calls Try.prog 14 #[.pointer none] w fun e w' => e = .returned (.slice none 0 0) ∧ w.grownBy w' none := by
  have hz : ∀ w1, Calls Try.prog 33 #[.pointer none] w1 _ := fun w1 => size_any (.inl ⟨rfl, rfl⟩)
  go_enter Try.func14, Try.ntmps14
  go_wp2
  go_loopw [3, 4] (fun v i wr => v = .slice none 0 0 ∧ i = .int .u64 0 ∧ wr = w) (fun _ _ _ => 0)
  case atStart => exact ⟨rfl, rfl, rfl⟩
  case round =>
    obtain ⟨rfl, rfl, rfl⟩ := hrel
    go_wp2_with (go_at_call 33; (with_reducible refine (hz _).mono ?_); rintro e w2 ⟨rfl, rfl⟩)
    go_ret
    exact ⟨rfl, grown_refl _ _⟩
end Go.Proofs.Ytojkebnjohanaaa
