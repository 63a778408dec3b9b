/-
  Layer 10's plain answer Take: all ways in one.
  Conditions: the heap's value is told; its blocks are 1000 at most, begin on multiples of 16, and are small; n bytes fit. (Else: CarJ.)
-/
import Derived.Test.YtoamlkljfmgomaaGreatCarIa
import Derived.Test.YtoamlkljfmgomaaGreatCarIb
import Derived.Test.YtoamlkljfmgomaaGreatCarIc
import Derived.Test.YtoamlkljfmgomaaGreatCarId
import Derived.Test.YtoamlkljfmgomaaGreatCarJ
namespace Go.Proofs.YtoamlkljfmgomaaGreat
open Go.RowKit
set_option linter.unusedVariables false

theorem heapV_cap {E : Nat} {la la' : Option Addr} {N N' c c' : Nat} {vs vs' : Nat → Value} (e : heapV E (.slice la N c) vs = heapV E (.slice la' N' c') vs') : c' = c := by
  unfold heapV at e
  simp only [Value.agg.injEq, Array.mk.injEq, List.cons.injEq, Value.slice.injEq] at e
  exact e.2.1.2.2.symm
theorem rtake10_ok {w : World} {base : Nat} {v : Value} {E : Nat} {bs : List Blk} {L : Nat → List Nat} (h : HvIs w base v E bs L) (hbw : base ≤ w.heap.size) (hlen : bs.length ≤ 1000) (hbd : Bounds bs) {n a i owner : Nat} (ha : alignP a) (hn : n ≤ 18446744073709551560) (how : owner ≤ 8) (hfi : fitM bs n a = some i) (hL : ∀ c, (L c).length ≤ 1000) :
    Calls Tryz.prog 15 #[v, .int .i64 owner, .int .u64 n, .int .u64 a] w fun e w' => ∃ v', e = .returned (.tuple #[v', .int .u64 (gO bs i + padN (gO bs i) a + 32 : Nat), .int .i64 0]) ∧ HvIs w' base v' E (takeB bs i (padN (gO bs i) a) (needOf n) owner n) (takeL L owner (gO bs i + padN (gO bs i) a)) ∧ RowsOf v v' w.heap.size ∧ w.grownBy w' none := by
  obtain ⟨b, vs, hv, hb, _⟩ := h.is
  obtain ⟨la, c, hbe, _⟩ := hb.at_
  rw [hbe] at hv
  have hc : ∀ la' N' c' vs', v = heapV E (.slice la' N' c') vs' → c' = c := fun la' N' c' vs' e => heapV_cap (hv.symm.trans e)
  by_cases h0 : owner = 0
  · by_cases hci : i + 1 < c
    · exact rtake10_more0 h hbw hlen hbd ha hn how hfi hL (fun la' N' c' vs' e => by rw [hc _ _ _ _ e]; exact hci) h0
    · exact rtake10_last0 h hbw hlen hbd ha hn how hfi hL (fun la' N' c' vs' e => by rw [hc _ _ _ _ e]; omega) h0
  · by_cases hci : i + 1 < c
    · exact rtake10_more h hbw hlen hbd ha hn how hfi hL (fun la' N' c' vs' e => by rw [hc _ _ _ _ e]; exact hci) h0
    · exact rtake10_last h hbw hlen hbd ha hn how hfi hL (fun la' N' c' vs' e => by rw [hc _ _ _ _ e]; omega) h0
end Go.Proofs.YtoamlkljfmgomaaGreat
