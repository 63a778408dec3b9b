/-
  The contracts of the plain answers Apply and Same of layer 3.
  Conditions: the words, and the pairs, are rows of the call's own, or nil.
-/
import Derived.Test.YtkpopaadkfgjaaaTxS
import Derived.Test.YtkpopaadkfgjaaaTxF
import Derived.StillTailTactics
import Derived.Deep.RegionHeld3
import Derived.Deep.QuietTactic
import Derived.BigQuiet
namespace Go.Proofs.Ytkpopaadkfgjaaa
open Go.RowKit
set_option linter.unusedVariables false
set_option linter.unusedSimpArgs false

theorem applyI_step (ws : List Nat) (l : List (Nat × Nat)) (k : Nat) : applyI ws l (List.range (k + 1)) = put (applyI ws l (List.range k)) (txX l k) (txV l k) := by
  rw [List.range_succ, applyI_snoc]
set_option maxHeartbeats 1000000 in
theorem rtxapply_any {w : World} {base : Nat} {wv pv : Value} {ws : List Nat} {l : List (Nat × Nat)} (h : RTx w base wv pv ws l) (hbase : base ≤ w.heap.size) (hm : ws.length ≤ 131072) (hok : TxOk ws l) :
    Calls Try.prog 73 #[.agg #[wv, pv]] w fun e w' => ∃ v, e = .returned v ∧ OwnW w' base v (txApply ws l) ∧ w.grownBy w' none := by
  have hl := Nat.le_trans hok.len hm
  obtain ⟨wa, wc, wg, hwv, _, _⟩ := OwnW.addr h.words
  have hwords := h.words
  subst hwv
  obtain ⟨pa, pc, pg, hpv, hpa, hpc⟩ := h.puts.addr
  have hpc' := fun w' (hg : w.grownBy w' none) => hpc w' (h.puts.later hg)
  clear hpc h
  subst hpv
  obtain ⟨W0, hW0⟩ : ∃ W0, w.alloc (.cells #[.slice wa ws.length wc, .slice pa l.length pc] 27) = W0 := ⟨_, rfl⟩
  have hg0 : w.grownBy W0 none := by rw [← hW0]; exact World.grownBy_alloc _ _ _
  have hb : W0.heap[w.heap.size]? = some (.cells #[.slice wa ws.length wc, .slice pa l.length pc] 27 (0, 0)) := by rw [← hW0]; exact heap_alloc_new' w _
  have c0 : W0.cell? ⟨w.heap.size, 0, none⟩ = some (.slice wa ws.length wc) := by simp [World.cell?, hb]
  have HB := Lib.hid hb
  have HPA := Lib.hid hpa
  clear hb hpa
  go_enter Try.func73, Try.ntmps73
  go_wp2
  clear hW0 c0
  go_loopw [3, 4] (fun v i wr => ∃ k : Nat, k ≤ l.length ∧ i = .int .i64 k ∧ OwnW wr base v (applyI ws l (List.range k)) ∧ W0.grownBy wr none) (fun _ i _ => l.length - (intOf i).toNat)
  case atStart => exact ⟨0, Nat.zero_le _, rfl, hwords.later hg0, grown_refl _ _⟩
  case round =>
    obtain ⟨k, hk, rfl, hown, hgr⟩ := hrel
    have hbr := (hgr.block _ (lt_of_block HB.out) (by simp)).trans HB.out
    have c1 : wr.cell? ⟨w.heap.size, 1, none⟩ = some (.slice pa l.length pc) := by simp [World.cell?, hbr]
    rcases Nat.lt_or_ge k l.length with h1 | h1
    · obtain ⟨k0, k1⟩ := hpc' _ (grown_trans hg0 hgr) k h1
      have ea := HPA.out (by omega)
      subst ea
      have hX := (hok.lt hm k).1
      have hlen := applyI_len ws l (List.range k)
      have hstep := applyI_step ws l k
      have HS := Lib.hid hstep
      clear hbr hstep
      go_wp2
      obtain ⟨v1, hv1⟩ : ∃ v1, v1 = wr.drew := ⟨_, rfl⟩
      have hq1 : wr.grownBy wr.drew none := grown_drew (grown_refl _ _)
      have hown1 := hown.later hq1
      have hb1 := (grown_trans (grown_trans hg0 hgr) hq1).size
      have hsz : w.heap.size < wr.drew.heap.size := Nat.lt_of_lt_of_le (lt_of_block HB.out) (grown_trans hgr hq1).size
      go_region_held3 (fun w' => w'.cell? ⟨w.heap.size, 1, none⟩ = some (.slice (some ⟨pg, 0, none⟩) l.length pc) ∧ w'.cell? ⟨pg, k * 2, none⟩ = some (.int .u64 (txX l k : Nat)) ∧ w'.cell? ⟨pg, k * 2 + 1, none⟩ = some (.int .u64 (txV l k : Nat))) (go_keep)
        (first | (go_at_call 81; refine (rstore_any hown1 (by omega) (by omega) _ _ hX).mono ?_; rintro e v4 ⟨wv', rfl, hg4, ho4⟩; have q1 : v4.cell? ⟨w.heap.size, 1, none⟩ = some (.slice (some ⟨pg, 0, none⟩) l.length pc) := (World.cell?_of_block (w := wr.drew) (a := ⟨w.heap.size, 1, none⟩) (hg4.block _ hsz (by simp))).trans c1; have q2 := (hpc' _ (grown_trans (grown_trans (grown_trans hg0 hgr) hq1) hg4) k h1).1; have q3 := (hpc' _ (grown_trans (grown_trans (grown_trans hg0 hgr) hq1) hg4) k h1).2))
      go_wp2
      go_roundw
      case rel => exact ⟨k + 1, by omega, by go_num, by rw [HS.out]; exact ho4, grown_trans hgr (grown_trans hq1 hg4)⟩
      case measure => simp [intOf]; omega
    · obtain rfl : k = l.length := by omega
      go_wp2
      go_ret
      rw [applyI_all] at hown
      exact ⟨_, rfl, hown, grown_trans hg0 hgr⟩

end Go.Proofs.Ytkpopaadkfgjaaa
