/-
  Layer 16's statements: their 'awake'.
  No condition.
-/
import Derived.Test.YtmcnpenihoaajaaGreatAudP
namespace Go.Proofs.YtmcnpenihoaajaaGreat
open Go.RowKit
set_option linter.unusedVariables false
set_option linter.unusedSimpArgs false
set_option maxRecDepth 100000
theorem chk_odd {n : Nat} (h : fitsP n 4800) : chkN (put (fmtW 600 n) 0 1) [] = 12 := by
  unfold chkN
  refine if_neg fun hc => ?_
  have h1 := hc.2.1
  rw [see_nil, getW_put' _ _ ⟨by decide, by rw [fmtW_len]; decide⟩, if_pos rfl] at h1
  omega
theorem chk_zero : chkN (List.replicate 600 0) [] = 12 := by
  unfold chkN
  refine if_neg fun hc => ?_
  have h1 := hc.2.1
  rw [see_nil] at h1
  exact absurd h1 (by decide +kernel)
set_option maxHeartbeats 4000000 in
theorem awake16_any (w : World) : Calls Tryz.prog 5 #[] w fun e w' => e = .returned (.bool true) ∧ w.grownBy w' none := by
  have hf : fitsP 4480 4800 := by decide
  have hnew := new48 w
  go_enter Tryz.func5, Tryz.ntmps5
  go_wp2_with (first
    | (go_at_call 6; go_must ((with_reducible refine hnew.mono ?_); rintro e w1 ⟨rfl, hg1, hS1⟩; have hfm : Calls Tryz.prog 7 #[.pointer (some ⟨w.heap.size + 1, 0, none⟩), .int .u64 4480] w1 fun e w' => e = .returned (.int .i64 0) ∧ w1.grownBy w' (some w.heap.size) ∧ IsSeg w' (w.heap.size + 1) w.heap.size (fmtW 600 4480) := format48 hS1 hf))
    | (go_at_call 7; go_must ((with_reducible refine hfm.mono ?_); rintro e w2 ⟨rfl, hg2, hS2⟩; have hG2 : w.grownBy w2 none := grown_new (grown_trans (grown_any hg1 _) hg2) (Nat.le_refl _); have hA := audit_fr hf hS2))
    | (go_at_call 9; (with_reducible refine hA.mono ?_); rintro e w3 ⟨rfl, hg3⟩; have hS3 := hS2.later hg3; have hG3 := grown_trans hG2 hg3; have hL := look_fr hf hS3; simp only [show ((4480 : Nat) : Int) = 4480 from rfl] at hL)
    | (go_at_call 12; go_must ((with_reducible refine hL.mono ?_); rintro e w4 ⟨g, a, c, la, lc, rfl, hgw, hgb, hg4⟩; have hS4 := hS3.later hg4; have hG4 := grown_trans hG3 hg4; have hga := World.grownBy_alloc w4 (.cells #[.int .u64 4480, .slice (some ⟨g, 0, none⟩) 1 1, .slice none 0 0, .slice la 0 lc] 41) none; have hba := heap_alloc_new' w4 (.cells #[.int .u64 4480, .slice (some ⟨g, 0, none⟩) 1 1, .slice none 0 0, .slice la 0 lc] 41); have hG5 := grown_trans hG4 hga; have hst : Calls Tryz.prog 8 #[.pointer (some ⟨w.heap.size + 1, 0, none⟩), .int .u64 0, .int .u64 1] _ _ := store_any (hS4.later hga) 0 1 (by decide) (by decide); obtain ⟨q0, q1, q2, q3, _⟩ := vw_cells hba))
    | (go_at_call 8; go_must ((with_reducible refine hst.mono ?_); rintro e w6 ⟨rfl, hg6, hS6⟩; have hG6 : w.grownBy w6 none := grown_new (grown_trans (grown_any hG5 _) hg6) (Nat.le_refl _); have hb6 := (hg6.block _ (lt_of_block hba) (by have := lt_of_block hS4.data; intro hh; injection hh with hh; omega)).trans hba; obtain ⟨r0, r1, r2, r3, _⟩ := vw_cells hb6; have hA2 := audit_no hS6 (chk_odd hf)))
    | (go_at_call 9; go_must ((with_reducible refine hA2.mono ?_); rintro e w7 ⟨rfl, hg7⟩)))
  go_ret
  exact ⟨rfl, grown_trans hG6 hg7⟩
end Go.Proofs.YtmcnpenihoaajaaGreat
