/-
  The contract of 'filled': the segment and the plain answer's words, behind the stores; all that was there is as it was.
  Conditions: the numbers are of 64 bits; the pairs lie in memory.
-/
import Derived.Test.YtdmogmdhdhgmeaaSegY
import Derived.StillTailTactics
import Derived.Deep.RegionHeld3
namespace Go.Proofs.Ytdmogmdhdhgmeaa
open Go.RowKit
set_option linter.unusedVariables false
set_option linter.unusedSimpArgs false

def FilledPost (w : World) (ws : List Nat) (e : Ending) (w' : World) : Prop := ∃ v wv, e = .returned (.tuple #[v, wv, .bool true]) ∧ FillRel w v wv ws w'
set_option maxHeartbeats 1000000 in
theorem filled_may {w : World} {la : Option Addr} {n c : Nat} {X V : Nat → Nat} (hp : PutsAt w la n X V) (hn : n ≤ maxLen) (m : Nat) (h1 : 1 ≤ m) (hm : m ≤ 131072) :
    Calls Try.prog 10 #[.int .u64 (8 * m : Nat), .slice la n c] w (FilledPost w (fillW (List.replicate m 0) X V (min n 40))) := by
  unfold maxLen at hn
  have hnew := new_yes m h1 hm
  have hrnew := rnew_yes m h1 hm
  have hmay := fun w => rmay_any (8 * m) (by omega) w
  rw [decide_eq_true (show may (8 * m) from ⟨by omega, by omega, by omega⟩)] at hmay
  have hsz := fun (w : World) (B D : Nat) (h : IsSeg w B D (List.replicate m 0)) => size_any (.inr ⟨B, D, rfl, h⟩)
  simp only [List.length_replicate] at hsz
  have hlen := fun k => fillW_len (List.replicate m 0) X V k
  simp only [List.length_replicate] at hlen
  obtain ⟨N, hN⟩ : ∃ N, 8 * m = N := ⟨_, rfl⟩
  rw [hN] at hnew hrnew hmay hsz ⊢
  have hsum : 8 * (m : Int) = (N : Int) := by omega
  go_enter Try.func10, Try.ntmps10
  go_wp2_with (first | (go_at_call 20; ((with_reducible refine (hnew _).mono ?_); rintro e w1 ⟨rfl, hg1, hs1⟩)) | (go_at_call 21; ((with_reducible refine (hrnew _).mono ?_); rintro e w2 ⟨rfl, hg2, ho2⟩; have hs2 := hs1.later hg2)) | (go_at_call 9; ((with_reducible refine (hmay _).mono ?_); rintro e w3 ⟨rfl, rfl⟩)) | (go_at_call 19; ((with_reducible refine (hsz _ _ _ hs2).mono ?_); rintro e w4 ⟨rfl, rfl⟩)))
  have R0 : FillRel w (.pointer (some ⟨w.heap.size + 1, 0, none⟩)) (.slice (some ⟨w1.heap.size, 0, none⟩) m m) (fillW (List.replicate m 0) X V 0) w2 :=
    ⟨grown_trans hg1 hg2, .inr ⟨_, _, rfl, by omega, Nat.le_refl _, hs2⟩, ho2.mono hg1.size⟩
  clear hs1 hs2 hg1 hg2 ho2 hnew hrnew hmay hsz
  go_loopw [8, 9] (fun wv i wr => ∃ k : Nat, k ≤ min n 40 ∧ i = .int .i64 k ∧ FillRel w (.pointer (some ⟨w.heap.size + 1, 0, none⟩)) wv (fillW (List.replicate m 0) X V k) wr) (fun _ i _ => 40 - (intOf i).toNat)
  case atStart => exact ⟨0, Nat.zero_le _, rfl, R0⟩
  case round =>
    obtain ⟨k, hk, rfl, R⟩ := hrel
    clear R0
    by_cases hlt : k < min n 40
    · have hn0 : k < n := by omega
      have h40 : k < 40 := by omega
      obtain ⟨b, off, rfl, hb, hcs⟩ := (hp.later R.grown).cells (by omega)
      obtain ⟨c1, c2⟩ := hcs k hn0
      clear hcs
      have hx := (hp.lt k).1
      have hv := (hp.lt k).2
      go_wp2
      go_still_tail 11, (by kernel_rfl)
      obtain ⟨v1, hv1⟩ : ∃ v1, v1 = wr.drew := ⟨_, rfl⟩
      have hq1 : wr.grownBy v1 none := by rw [hv1]; exact grown_drew (grown_refl _ _)
      have hseg := R.seg.later hq1
      have hown := R.own.later hq1
      go_wp2_with (go_at_call 14; rw [← hv1]; refine (store_own hseg _ _ hx hv).mono ?_; rintro e v2 ⟨rfl, hwr, hs2⟩)
      have hgr2 := hwr.grown (grown_trans R.grown hq1) (Nat.le_refl _)
      have hown2 := hwr.own hown
      clear c1 c2
      obtain ⟨b', off', hbo, hb', hcs⟩ := (hp.later hgr2).cells (by omega)
      injection hbo with hbo
      injection hbo with hbo1 hbo2
      subst hbo1
      subst hbo2
      obtain ⟨c1, c2⟩ := hcs k hn0
      clear hcs
      have hx' := hx
      have hq3 : v2.grownBy v2.drew none := grown_drew (grown_refl _ _)
      have hown3 := hown2.later hq3
      have hb3 := (grown_trans hgr2 hq3).size
      have hl3 := hlen k
      have hbv : b < v2.heap.size := by have := hgr2.size; omega
      go_region_held3 (fun w' => w'.cell? ⟨b, off + k * 2, none⟩ = some (.int .u64 (X k : Nat)) ∧ w'.cell? ⟨b, off + k * 2 + 1, none⟩ = some (.int .u64 (V k : Nat))) (go_keep)
        (first | (go_at_call 22; refine (rstore_any hown3 hb3 (by omega) _ _ hx).mono ?_; rintro e v4 ⟨wv', rfl, hg4, ho4⟩; have k1 : v4.cell? ⟨b, off + k * 2, none⟩ = some (.int .u64 (X k : Nat)) := (World.cell?_of_block (w := v2.drew) (a := ⟨b, off + k * 2, none⟩) (hg4.block b hbv (by simp))).trans c1; have k2 : v4.cell? ⟨b, off + k * 2 + 1, none⟩ = some (.int .u64 (V k : Nat)) := (World.cell?_of_block (w := v2.drew) (a := ⟨b, off + k * 2 + 1, none⟩) (hg4.block b hbv (by simp))).trans c2))
      go_wp2
      go_roundw
      case rel => exact ⟨k + 1, by omega, by go_num, ⟨grown_trans hgr2 (grown_trans hq3 hg4), (hs2.later hq3).later hg4, ho4⟩⟩
      case measure => simp [intOf]; omega
    · obtain ⟨M, hM⟩ : ∃ M, min n 40 = M := ⟨_, rfl⟩
      rw [hM] at hk hlt ⊢
      obtain rfl : k = M := by omega
      have HM := Lib.hid hM
      by_cases hkn : k < n
      · have h40 : ¬ k < 40 := by omega
        clear hM
        go_wp2
        go_ret3
        exact ⟨_, _, rfl, by rw [HM.out]; exact R⟩
      · clear hM
        go_wp2
        go_ret3
        exact ⟨_, _, rfl, by rw [HM.out]; exact R⟩
set_option maxHeartbeats 1000000 in
theorem filled_not {w : World} {la : Option Addr} {n c : Nat} {X V : Nat → Nat} (hp : PutsAt w la n X V) (hn : n ≤ maxLen) (N : Nat) (hN : N < 18446744073709551616) (hno : ¬ may N) :
    Calls Try.prog 10 #[.int .u64 N, .slice la n c] w (FilledPost w (fillW [] X V (min n 40))) := by
  unfold maxLen at hn
  have hnew := new_no N hN hno
  have hrnew := rnew_no N hN hno
  have hmay := fun w => rmay_any N hN w
  rw [decide_eq_false hno] at hmay
  have hsz : ∀ w : World, Calls Try.prog 19 #[.pointer none] w fun e w' => e = .returned (.int .u64 0) ∧ w = w' := fun w => size_any (.inl ⟨rfl, rfl⟩)
  have hlen := fun k => fillW_len [] X V k
  have R0 : FillRel w (.pointer none) (.slice none 0 0) (fillW [] X V 0) w :=
    ⟨grown_refl _ _, .inl ⟨rfl, rfl⟩, World.ownsRow_nil _ _ _ _⟩
  go_enter Try.func10, Try.ntmps10
  go_wp2_with (first | (go_at_call 20; ((with_reducible refine (hnew _).mono ?_); rintro e w1 ⟨rfl, rfl⟩)) | (go_at_call 21; ((with_reducible refine (hrnew _).mono ?_); rintro e w2 ⟨rfl, rfl⟩)) | (go_at_call 9; ((with_reducible refine (hmay _).mono ?_); rintro e w3 ⟨rfl, rfl⟩)) | (go_at_call 19; ((with_reducible refine (hsz _).mono ?_); rintro e w4 ⟨rfl, rfl⟩)))
  clear hnew hrnew hmay hsz
  go_loopw [8, 9] (fun wv i wr => ∃ k : Nat, k ≤ min n 40 ∧ i = .int .i64 k ∧ FillRel w (.pointer none) wv (fillW [] X V k) wr) (fun _ i _ => 40 - (intOf i).toNat)
  case atStart => exact ⟨0, Nat.zero_le _, rfl, R0⟩
  case round =>
    obtain ⟨k, hk, rfl, R⟩ := hrel
    clear R0
    by_cases hlt : k < min n 40
    · have hn0 : k < n := by omega
      have h40 : k < 40 := by omega
      obtain ⟨b, off, rfl, hb, hcs⟩ := (hp.later R.grown).cells (by omega)
      obtain ⟨c1, c2⟩ := hcs k hn0
      clear hcs
      have hx := (hp.lt k).1
      have hv := (hp.lt k).2
      go_wp2
      go_still_tail 11, (by kernel_rfl)
      obtain ⟨v1, hv1⟩ : ∃ v1, v1 = wr.drew := ⟨_, rfl⟩
      have hq1 : wr.grownBy v1 none := by rw [hv1]; exact grown_drew (grown_refl _ _)
      have hseg := R.seg.later hq1
      have hown := R.own.later hq1
      go_wp2_with (go_at_call 14; rw [← hv1]; refine (store_own hseg _ _ hx hv).mono ?_; rintro e v2 ⟨rfl, hwr, hs2⟩)
      have hgr2 := hwr.grown (grown_trans R.grown hq1) (Nat.le_refl _)
      have hown2 := hwr.own hown
      clear c1 c2
      obtain ⟨b', off', hbo, hb', hcs⟩ := (hp.later hgr2).cells (by omega)
      injection hbo with hbo
      injection hbo with hbo1 hbo2
      subst hbo1
      subst hbo2
      obtain ⟨c1, c2⟩ := hcs k hn0
      clear hcs
      have hx' := hx
      have hq3 : v2.grownBy v2.drew none := grown_drew (grown_refl _ _)
      have hown3 := hown2.later hq3
      have hb3 := (grown_trans hgr2 hq3).size
      have hl3 := hlen k
      have hbv : b < v2.heap.size := by have := hgr2.size; omega
      go_region_held3 (fun w' => w'.cell? ⟨b, off + k * 2, none⟩ = some (.int .u64 (X k : Nat)) ∧ w'.cell? ⟨b, off + k * 2 + 1, none⟩ = some (.int .u64 (V k : Nat))) (go_keep)
        (first | (go_at_call 22; refine (rstore_any hown3 hb3 (by rw [hl3]; decide) _ _ hx).mono ?_; rintro e v4 ⟨wv', rfl, hg4, ho4⟩; have k1 : v4.cell? ⟨b, off + k * 2, none⟩ = some (.int .u64 (X k : Nat)) := (World.cell?_of_block (w := v2.drew) (a := ⟨b, off + k * 2, none⟩) (hg4.block b hbv (by simp))).trans c1; have k2 : v4.cell? ⟨b, off + k * 2 + 1, none⟩ = some (.int .u64 (V k : Nat)) := (World.cell?_of_block (w := v2.drew) (a := ⟨b, off + k * 2 + 1, none⟩) (hg4.block b hbv (by simp))).trans c2))
      go_wp2
      go_roundw
      case rel => exact ⟨k + 1, by omega, by go_num, ⟨grown_trans hgr2 (grown_trans hq3 hg4), (hs2.later hq3).later hg4, ho4⟩⟩
      case measure => simp [intOf]; omega
    · obtain ⟨M, hM⟩ : ∃ M, min n 40 = M := ⟨_, rfl⟩
      rw [hM] at hk hlt ⊢
      obtain rfl : k = M := by omega
      have HM := Lib.hid hM
      by_cases hkn : k < n
      · have h40 : ¬ k < 40 := by omega
        clear hM
        go_wp2
        go_ret3
        exact ⟨_, _, rfl, by rw [HM.out]; exact R⟩
      · clear hM
        go_wp2
        go_ret3
        exact ⟨_, _, rfl, by rw [HM.out]; exact R⟩
end Go.Proofs.Ytdmogmdhdhgmeaa
