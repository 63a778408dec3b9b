/-
  Package ledger: places, its closure, and join: what each of them tells and stores.
  Conditions: the Tx stands in memory; the row lies in memory; blocks lie far from the end of what numbers can tell.
-/
import Derived.Test.YtoamlkljfmgomaaGreatLedLa
import Derived.Test.YtoamlkljfmgomaaGreatCliA
import Derived.Deep.RegionHeld3
namespace Go.Proofs.YtoamlkljfmgomaaGreat
open Go.RowKit
set_option linter.unusedVariables false
set_option linter.unusedSimpArgs false
set_option maxRecDepth 100000

/-- places boxes its row and hands the closure back. -/
theorem places_any (la : Option Addr) (n c : Nat) (w : World) : Calls Tryz.prog 64 #[.slice la n c] w fun e w' => e = .returned (.func (.func 96) #[] #[.pointer (some ⟨w.heap.size, 0, none⟩)]) ∧ w.alloc (.cells #[.slice la n c] 27) = w' := by
  go_enter Tryz.func64, Tryz.ntmps64
  go_wp2
  go_ret
  exact ⟨rfl, rfl⟩
/-- who stands at a place -/
def atZ (xs : List Nat) (i : Int) : Nat := if i < 0 then 0 else xs.getD i.toNat 0
theorem places1_any {w : World} {la : Option Addr} {n c cb : Nat} {xs : List Nat} (hc : w.cell? ⟨cb, 0, none⟩ = some (.slice la n c)) (hw : WordsAt w la xs) (hn : xs.length = n) (i : Int) :
    Calls Tryz.prog 96 #[.int .i64 i, .pointer (some ⟨cb, 0, none⟩)] w fun e w' => e = .returned (.int .u64 (atZ xs i : Nat)) ∧ w.grownBy w' none := by
  by_cases h0 : i < 0
  · have e : atZ xs i = 0 := if_pos h0
    rw [e]
    clear hw hn e
    go_enter Tryz.func96, Tryz.ntmps96
    go_wp2
    go_ret
    exact ⟨rfl, grown_refl _ _⟩
  · by_cases h1 : i < (n : Int)
    · obtain ⟨k, hk⟩ : ∃ k : Nat, i = k := ⟨i.toNat, by omega⟩
      subst hk
      have hkn : k < xs.length := by omega
      obtain ⟨b, off, rfl, hb, hcs⟩ := hw.cells (by omega)
      have c0 := hcs k hkn
      have e : atZ xs k = xs.getD k 0 := by unfold atZ; rw [if_neg (by omega)]; rfl
      rw [e]
      obtain ⟨x, hx⟩ : ∃ x, xs.getD k 0 = x := ⟨_, rfl⟩
      rw [hx] at c0 ⊢
      clear hcs e hx hw
      go_enter Tryz.func96, Tryz.ntmps96
      go_wp2
      go_ret
      exact ⟨rfl, grown_refl _ _⟩
    · have e : atZ xs i = 0 := by
        unfold atZ
        rw [if_neg h0, List.getD_eq_getElem?_getD, List.getElem?_eq_none (by omega)]
        rfl
      have h2 : (n : Int) ≤ i := by omega
      rw [e]
      clear hw hn e
      go_enter Tryz.func96, Tryz.ntmps96
      go_wp2
      go_ret
      exact ⟨rfl, grown_refl _ _⟩
/-! ### join -/
/-- what join makes of what is thought of -/
def joinL (ws : List Nat) (l : List (Nat × Nat)) (c p n : Nat) : List (Nat × Nat) :=
  if n = 0 then (if p = 0 then txStore ws l (slotH c) n else txStore ws l (p + 16) n) else txStore ws (if p = 0 then txStore ws l (slotH c) n else txStore ws l (p + 16) n) (n + 24) p
section
variable {w0 w : World} {T M : Nat} {R : Option Nat} {B D : Nat} {ws : List Nat} {l : List (Nat × Nat)}
set_option maxHeartbeats 4000000 in
theorem join_any (h : Txs w0 w T M R B D ws l) {c p n : Nat} (hc : c < 8) (hp : p + 24 < 18446744073709551616) (hn : n + 24 < 18446744073709551616) :
    Calls Tryz.prog 76 #[.pointer (some ⟨T, 0, none⟩), .int .i64 c, .int .u64 p, .int .u64 n] w fun e w' => e = .returned (.tuple #[]) ∧ ∃ R', Txs w0 w' T M R' B D ws (joinL ws l c p n) ∧ Keep w R w' R' := by
  have hs : slotP c 8 := ⟨⟨by omega, by omega⟩, by decide, by decide⟩
  have hwd : ∀ V, Calls Tryz.prog 106 #[.int .i64 c, .int .u64 8] V _ := fun V => cword_any c 8 V
  rw [decide_eq_true hs] at hwd
  obtain ⟨x8, hx8⟩ : ∃ x8, wordN c 8 = x8 := ⟨_, rfl⟩
  rw [hx8] at hwd
  have es : slotN c 8 = slotH c := by unfold slotN slotH; simp only [Int.toNat_natCast]; omega
  have hpt := fun (V : World) (hg : w.grownBy V none) => cpoint_any (h.later hg).tx c n (by omega)
  have ecs : cSet ws l c 8 n = txStore ws l (slotH c) n := by unfold cSet; rw [if_pos hs, es]
  rw [ecs] at hpt
  have hst := fun (V : World) (hg : w.grownBy V none) => txstore_any (h.later hg).tx (p + 16) n (by omega) (by omega)
  have e16 : IntKind.u64.wrap ((p : Int) + 16) = ((p + 16 : Nat) : Int) := by rw [IntKind.wrap_u64]; omega
  have e24 : IntKind.u64.wrap ((n : Int) + 24) = ((n + 24 : Nat) : Int) := by rw [IntKind.wrap_u64]; omega
  obtain ⟨p16, hp16⟩ : ∃ q, p + 16 = q := ⟨_, rfl⟩
  obtain ⟨n24, hn24⟩ : ∃ q, n + 24 = q := ⟨_, rfl⟩
  rw [hp16] at hst e16
  rw [hn24] at e24
  have hn24' : n24 < 18446744073709551616 := by omega
  unfold joinL
  rw [hp16, hn24]
  clear hx8 es ecs hp16 hn24
  by_cases hp0 : p = 0
  · subst hp0
    rw [if_pos rfl]
    obtain ⟨l1, hl1⟩ : ∃ l1, txStore ws l (slotH c) n = l1 := ⟨_, rfl⟩
    rw [hl1] at hpt ⊢
    by_cases hn0 : n = 0
    · subst hn0
      rw [if_pos rfl]
      simp only [show ((0 : Nat) : Int) = 0 from rfl] at hpt hst ⊢
      go_enter Tryz.func76, Tryz.ntmps76
      go_wp2_with (first | (go_at_call 106; (with_reducible refine (hwd _).mono ?_); rintro e w1 ⟨rfl, rfl⟩) | (go_at_call 107; (with_reducible refine (hpt _ (grown_refl _ _)).mono ?_); rintro e w2 ⟨rfl, ht2⟩))
      go_end0
      exact ⟨rfl, step_keep h ht2⟩
    · have hn0' : ¬ (n : Int) = 0 := by omega
      have en : ((n : Int) != 0) = true := by simp; omega
      rw [if_neg hn0]
      go_enter Tryz.func76, Tryz.ntmps76
      go_wp2_with (first | (go_at_call 106; (with_reducible refine (hwd _).mono ?_); rintro e w1 ⟨rfl, rfl⟩) | (go_at_call 107; (with_reducible refine (hpt _ (grown_refl _ _)).mono ?_); rintro e w2 ⟨rfl, ht2⟩; obtain ⟨R2, X2, K2⟩ := step_keep h ht2; have hs2 : ∀ V : World, w2.grownBy V none → Calls Tryz.prog 17 #[.pointer (some ⟨T, 0, none⟩), .int .u64 n24, .int .u64 0] V _ := fun (V : World) (hg : w2.grownBy V none) => txstore_any (X2.later hg).tx n24 0 hn24' (by omega)) | (go_at_call 17; (with_reducible refine (hs2 _ (grown_refl _ _)).mono ?_); rintro e w3 ⟨rfl, ht3⟩))
      go_end0
      obtain ⟨R3, X3, K3⟩ := step_keep X2 ht3
      exact ⟨rfl, R3, X3, K2.trans K3⟩
  · have hp0' : ¬ (p : Int) = 0 := by omega
    rw [if_neg hp0]
    obtain ⟨l1, hl1⟩ : ∃ l1, txStore ws l p16 n = l1 := ⟨_, rfl⟩
    rw [hl1] at hst ⊢
    by_cases hn0 : n = 0
    · subst hn0
      rw [if_pos rfl]
      simp only [show ((0 : Nat) : Int) = 0 from rfl] at hpt hst ⊢
      go_enter Tryz.func76, Tryz.ntmps76
      go_wp2_with (first | (go_at_call 106; (with_reducible refine (hwd _).mono ?_); rintro e w1 ⟨rfl, rfl⟩) | (go_at_call 17; (with_reducible refine (hst _ (grown_refl _ _)).mono ?_); rintro e w2 ⟨rfl, ht2⟩))
      go_end0
      exact ⟨rfl, step_keep h ht2⟩
    · have hn0' : ¬ (n : Int) = 0 := by omega
      have en : ((n : Int) != 0) = true := by simp; omega
      rw [if_neg hn0]
      go_enter Tryz.func76, Tryz.ntmps76
      go_wp2_with (first | (go_at_call 106; (with_reducible refine (hwd _).mono ?_); rintro e w1 ⟨rfl, rfl⟩) | (go_at_call 17; (with_reducible refine (hst _ (grown_refl _ _)).mono ?_); rintro e w2 ⟨rfl, ht2⟩; obtain ⟨R2, X2, K2⟩ := step_keep h ht2; have hs2 := fun (V : World) (hg : w2.grownBy V none) => txstore_any (X2.later hg).tx n24 p hn24' (by omega)) | (go_at_call 17; (with_reducible refine (hs2 _ (grown_refl _ _)).mono ?_); rintro e w3 ⟨rfl, ht3⟩))
      go_end0
      obtain ⟨R3, X3, K3⟩ := step_keep X2 ht3
      exact ⟨rfl, R3, X3, K2.trans K3⟩
/-! ### Link and Unlink -/
set_option maxHeartbeats 2000000 in
theorem link_any (h : Txs w0 w T M R B D ws l) {c off : Nat} (hc : c < 8) (ho : off + 24 < 18446744073709551616) (hh : cGet ws l c 8 + 24 < 18446744073709551616) :
    Calls Tryz.prog 41 #[.pointer (some ⟨T, 0, none⟩), .int .i64 c, .int .u64 off] w fun e w' => e = .returned (.tuple #[]) ∧ ∃ R', Txs w0 w' T M R' B D ws (joinL ws (joinL ws l c 0 off) c off (cGet ws l c 8)) ∧ Keep w R w' R' := by
  have hhd := chead_any h.tx c
  obtain ⟨x, hx⟩ : ∃ x, cGet ws l c 8 = x := ⟨_, rfl⟩
  rw [hx] at hhd hh ⊢
  have hj1 : ∀ V : World, w.grownBy V none → Calls Tryz.prog 76 #[.pointer (some ⟨T, 0, none⟩), .int .i64 c, .int .u64 0, .int .u64 off] V _ := fun V hg => join_any (h.later hg) hc (by decide) ho
  obtain ⟨l1, hl1⟩ : ∃ l1, joinL ws l c 0 off = l1 := ⟨_, rfl⟩
  rw [hl1] at hj1 ⊢
  clear hx hl1
  go_enter Tryz.func41, Tryz.ntmps41
  go_wp2_with (first | (go_at_call 65; (with_reducible refine hhd.mono ?_); rintro e w1 ⟨rfl, hg1⟩) | (go_at_call 76; (with_reducible refine (hj1 _ hg1).mono ?_); rintro e w2 ⟨rfl, R2, X2, K2⟩; have hj2 := join_any X2 hc ho hh) | (go_at_call 76; (with_reducible refine hj2.mono ?_); rintro e w3 ⟨rfl, R3, X3, K3⟩))
  go_end0
  exact ⟨rfl, R3, X3, (Keep.of_grown hg1).trans (K2.trans K3)⟩
end
end Go.Proofs.YtoamlkljfmgomaaGreat
