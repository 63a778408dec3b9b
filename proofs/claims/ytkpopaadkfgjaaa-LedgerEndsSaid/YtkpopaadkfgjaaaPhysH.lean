/-
  Layer 6's plain answers: the contracts of Walk where the head is not checked, of place, Find, Merged and Beside.
  Conditions: the plain Tx and the blocks stand in memory; there are 131072 words, and 1000000 blocks, at most.
-/
import Derived.Test.YtkpopaadkfgjaaaPhysG
namespace Go.Proofs.Ytkpopaadkfgjaaa
open Go.RowKit
set_option linter.unusedVariables false
set_option linter.unusedSimpArgs false

section
variable {w : World} {base : Nat} {wv pv : Value} {ws : List Nat} {l : List (Nat × Nat)}
set_option maxHeartbeats 1000000 in
theorem rwalk_no (h : RTx w base wv pv ws l) (hbase : base ≤ w.heap.size) (hm : ws.length ≤ 131072) (hok : TxOk ws l) (hlt : ∀ x ∈ ws, x < 18446744073709551616) (hc : chkN ws l = 12) :
    Calls Try.prog 32 #[.agg #[wv, pv]] w fun e w' => e = .returned (.tuple #[.slice none 0 0, .int .i64 12]) ∧ w.grownBy w' none := by
  obtain ⟨wa, wn, wc, hwv⟩ := wv_form h.words
  subst hwv
  obtain ⟨pa, pn, pc, hpv⟩ := pv_form h.puts
  subst hpv
  have hg0 : w.grownBy (w.alloc (.cells #[.slice wa wn wc, .slice pa pn pc] 27)) none := World.grownBy_alloc _ _ _
  have hck := rcheck6_any (h.later hg0) (Nat.le_trans hbase hg0.size) hm hok hlt
  rw [hc] at hck
  simp only [show ((12 : Nat) : Int) = 12 from rfl] at hck
  clear h
  go_enter Try.func32, Try.ntmps32
  go_wp2_with (go_at_call 54; (with_reducible refine hck.mono ?_); rintro e w1 ⟨rfl, hg1⟩)
  go_ret2
  exact ⟨rfl, grown_trans hg0 hg1⟩
theorem rwalk_any (h : RTx w base wv pv ws l) (hbase : base ≤ w.heap.size) (hm : ws.length ≤ 131072) (hl : l.length ≤ 1000000) (hok : TxOk ws l) (hlt : ∀ x ∈ ws, x < 18446744073709551616) {bl : List Blk} {err : Nat} (hb : Heap ws l bl err) :
    Calls Try.prog 32 #[.agg #[wv, pv]] w fun e w' => ∃ v, e = .returned (.tuple #[v, .int .i64 (err : Nat)]) ∧ OwnB w' w.heap.size 80 v bl ∧ w.grownBy w' none := by
  rcases hb.is with ⟨hc, rfl, rfl⟩ | ⟨hc, N, ok, hw, rfl, rfl⟩
  · exact (rwalk_no h hbase hm hok hlt hc).mono fun e w' ⟨h1, h2⟩ => ⟨_, h1, World.ownsRow_nil _ _ _ _, h2⟩
  · exact rwalk_yes h hbase hm hl hok hlt hc hw (walks_small hm hc hw)
end
end Go.Proofs.Ytkpopaadkfgjaaa
