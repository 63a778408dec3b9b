/-
  What all statements of layer 3 ask first (awake) is true; what stands behind 'filled'; all words of a segment.
  Conditions: the pairs lie in memory.
-/
import Derived.Test.YtinkfichgknifaaTxT
import Derived.Test.YtinkfichgknifaaSegI
import Derived.Test.YtinkfichgknifaaSegW
namespace Go.Proofs.Ytinkfichgknifaa
open Go.RowKit
set_option linter.unusedVariables false
set_option linter.unusedSimpArgs false

/-- What filled has made: a segment of the call's own, and the plain answer's words. -/
def Filled3 (w : World) (ws : List Nat) (e : Ending) (w' : World) : Prop :=
  ∃ B D wv, e = .returned (.tuple #[.pointer (some ⟨B, 0, none⟩), wv]) ∧ FillRel w (.pointer (some ⟨B, 0, none⟩)) wv ws w' ∧ IsSeg w' B D ws ∧ w.heap.size ≤ B ∧ w.heap.size ≤ D
theorem new80 (w : World) : Calls Try.prog 29 #[.int .u64 80] w fun e w' => e = .returned (.pointer (some ⟨w.heap.size + 1, 0, none⟩)) ∧ w.grownBy w' none ∧ IsSeg w' (w.heap.size + 1) w.heap.size (List.replicate 10 0) := new_yes 10 (by decide) (by decide) w
theorem rnew80 (w : World) : Calls Try.prog 32 #[.int .u64 80] w fun e w' => e = .returned (.slice (some ⟨w.heap.size, 0, none⟩) 10 10) ∧ w.grownBy w' none ∧ OwnW w' w.heap.size (.slice (some ⟨w.heap.size, 0, none⟩) 10 10) (List.replicate 10 0) := rnew_yes 10 (by decide) (by decide) w
/-- the words behind filled -/
def ten (X V : Nat → Nat) (k : Nat) : List Nat := fillW (List.replicate 10 0) X V k
theorem ten_len (X V : Nat → Nat) (k : Nat) : (ten X V k).length = 10 := by unfold ten; rw [fillW_len]; rfl
theorem ten_lt {X V : Nat → Nat} (hV : ∀ i, V i < 18446744073709551616) (k : Nat) : ∀ x ∈ ten X V k, x < 18446744073709551616 := fillW_lt (by intro x hx; rw [List.eq_of_mem_replicate hx]; decide) hV k
set_option maxHeartbeats 1000000 in
theorem filled_ten {w : World} {la : Option Addr} {n c : Nat} {X V : Nat → Nat} (hp : PutsAt w la n X V) (hn : n ≤ maxLen) :
    Calls Try.prog 11 #[.slice la n c] w (Filled3 w (ten X V (min n 40))) := by
  unfold maxLen at hn
  have hlen := fun k => ten_len X V k
  go_enter Try.func11, Try.ntmps11
  go_wp2_with (first | (go_at_call 29; ((with_reducible refine (new80 _).mono ?_); rintro e w1 ⟨rfl, hg1, hs1⟩)) | (go_at_call 32; ((with_reducible refine (rnew80 _).mono ?_); rintro e w2 ⟨rfl, hg2, ho2⟩; have hs2 := hs1.later hg2)))
  have R0 : FillRel w (.pointer (some ⟨w.heap.size + 1, 0, none⟩)) (.slice (some ⟨w1.heap.size, 0, none⟩) 10 10) (ten X V 0) w2 :=
    ⟨grown_trans hg1 hg2, .inr ⟨_, _, rfl, by omega, Nat.le_refl _, hs2⟩, ho2.mono hg1.size⟩
  clear hs1 hs2 hg1 hg2 ho2
  go_loopw [5, 6] (fun wv i wr => ∃ k : Nat, k ≤ min n 40 ∧ i = .int .i64 k ∧ FillRel w (.pointer (some ⟨w.heap.size + 1, 0, none⟩)) wv (ten X V k) wr) (fun _ i _ => 40 - (intOf i).toNat)
  case atStart => exact ⟨0, Nat.zero_le _, rfl, R0⟩
  case round =>
    obtain ⟨k, hk, rfl, R⟩ := hrel
    clear R0
    by_cases hlt : k < min n 40
    · have hn0 : k < n := by omega
      have h40 : k < 40 := by omega
      obtain ⟨b, off, rfl, hb, hcs⟩ := (hp.later R.grown).cells (by omega)
      obtain ⟨c1, c2⟩ := hcs k hn0
      clear hcs
      have hx := (hp.lt k).1
      have hv := (hp.lt k).2
      go_wp2
      go_still_tail 11, (by kernel_rfl)
      obtain ⟨v1, hv1⟩ : ∃ v1, v1 = wr.drew := ⟨_, rfl⟩
      have hq1 : wr.grownBy v1 none := by rw [hv1]; exact grown_drew (grown_refl _ _)
      have hseg := R.seg.later hq1
      have hown := R.own.later hq1
      go_wp2_with (go_at_call 28; rw [← hv1]; refine (store_own hseg _ _ hx hv).mono ?_; rintro e v2 ⟨rfl, hwr, hs2⟩)
      have hgr2 := hwr.grown (grown_trans R.grown hq1) (Nat.le_refl _)
      have hown2 := hwr.own hown
      clear c1 c2
      obtain ⟨b', off', hbo, hb', hcs⟩ := (hp.later hgr2).cells (by omega)
      injection hbo with hbo
      injection hbo with hbo1 hbo2
      subst hbo1
      subst hbo2
      obtain ⟨c1, c2⟩ := hcs k hn0
      clear hcs
      have hx' := hx
      have hq3 : v2.grownBy v2.drew none := grown_drew (grown_refl _ _)
      have hown3 := hown2.later hq3
      have hb3 := (grown_trans hgr2 hq3).size
      have hl3 := hlen k
      have hbv : b < v2.heap.size := by have := hgr2.size; omega
      go_region_held3 (fun w' => w'.cell? ⟨b, off + k * 2, none⟩ = some (.int .u64 (X k : Nat)) ∧ w'.cell? ⟨b, off + k * 2 + 1, none⟩ = some (.int .u64 (V k : Nat))) (go_keep)
        (first | (go_at_call 33; refine (rstore_any hown3 hb3 (by rw [hl3]; decide) _ _ hx).mono ?_; rintro e v4 ⟨wv', rfl, hg4, ho4⟩; have k1 : v4.cell? ⟨b, off + k * 2, none⟩ = some (.int .u64 (X k : Nat)) := (World.cell?_of_block (w := v2.drew) (a := ⟨b, off + k * 2, none⟩) (hg4.block b hbv (by simp))).trans c1; have k2 : v4.cell? ⟨b, off + k * 2 + 1, none⟩ = some (.int .u64 (V k : Nat)) := (World.cell?_of_block (w := v2.drew) (a := ⟨b, off + k * 2 + 1, none⟩) (hg4.block b hbv (by simp))).trans c2))
      go_wp2
      go_roundw
      case rel => exact ⟨k + 1, by omega, by go_num, ⟨grown_trans hgr2 (grown_trans hq3 hg4), (hs2.later hq3).later hg4, ho4⟩⟩
      case measure => simp [intOf]; omega
    · obtain ⟨M, hM⟩ : ∃ M, min n 40 = M := ⟨_, rfl⟩
      rw [hM] at hk hlt ⊢
      obtain rfl : k = M := by omega
      have HM := Lib.hid hM
      have hne : ten X V k ≠ [] := by intro e; have := hlen k; rw [e] at this; simp at this
      obtain ⟨B, D, hv, hB, hD, hs⟩ := R.seg.yes hne
      injection hv with hv
      injection hv with hv
      injection hv with hv
      subst hv
      have HN := Lib.hid hne
      by_cases hkn : k < n
      · have h40 : ¬ k < 40 := by omega
        clear hM hne
        go_wp2
        go_ret2
        exact ⟨_, D, _, rfl, by rw [HM.out]; exact R, by rw [HM.out]; exact hs, hB, hD⟩
      · clear hM hne
        go_wp2
        go_ret2
        exact ⟨_, D, _, rfl, by rw [HM.out]; exact R, by rw [HM.out]; exact hs, hB, hD⟩
end Go.Proofs.Ytinkfichgknifaa
