/-
  Texts of one layer, one behind the other: memory, contracts of the functions, and what follows of them.
  Conditions: as each theorem says.
-/
import Derived.Test.YtcbdbflgfhbikaaGreatLTaa
import Derived.Test.YtcbdbflgfhbikaaGreatLCla
import Derived.Test.YtcbdbflgfhbikaaGreatTxP
import Derived.Test.YtcbdbflgfhbikaaGreatLPha
import Derived.Test.YtcbdbflgfhbikaaGreatLPhc
import Derived.Test.YtcbdbflgfhbikaaGreatLTrb
import Derived.Test.YtcbdbflgfhbikaaGreatLTra
import Derived.Deep.RegionHeld3
import Derived.Test.YtcbdbflgfhbikaaGreatLTxa
import Derived.StillTailTactics
import Derived.RangeFuncCalls
import Derived.TacticsInMore
import Derived.OrdersIn
import Derived.Test.YtcbdbflgfhbikaaGreatLSea
import Derived.Test.YtcbdbflgfhbikaaGreatRows
import Derived.Lib.SmallJoins
import Derived.Deep.SlicePairs
import Derived.ProofKit
import Derived.OpenShut
import Derived.Carry
import Derived.ChangeOld
import Derived.SizedLaws
set_option linter.unusedVariables false
set_option linter.unusedSimpArgs false
namespace Go.Proofs.YtcbdbflgfhbikaaGreat
open Go.RowKit
set_option maxRecDepth 100000
theorem places_any (la : Option Addr) (n c : Nat) (w : World) : Calls Tryz.prog 77 #[.slice la n c] w fun e w' => e = .returned (.func (.func 123) #[] #[.pointer (some ⟨w.heap.size, 0, none⟩)]) ∧ w.alloc (.cells #[.slice la n c] 27) = w' := by
  go_enter Tryz.func77, Tryz.ntmps77
  go_wp2
  go_ret
  exact ⟨rfl, rfl⟩
def atZ (xs : List Nat) (i : Int) : Nat := if i < 0 then 0 else xs.getD i.toNat 0
theorem places1_any {w : World} {la : Option Addr} {n c cb : Nat} {xs : List Nat} (hc : w.cell? ⟨cb, 0, none⟩ = some (.slice la n c)) (hw : WordsAt w la xs) (hn : xs.length = n) (i : Int) :
    Calls Tryz.prog 123 #[.int .i64 i, .pointer (some ⟨cb, 0, none⟩)] w fun e w' => e = .returned (.int .u64 (atZ xs i : Nat)) ∧ w.grownBy w' none := by
  by_cases h0 : i < 0
  · have e : atZ xs i = 0 := if_pos h0
    rw [e]
    clear hw hn e
    go_enter Tryz.func123, Tryz.ntmps123
    go_wp2
    go_ret
    exact ⟨rfl, grown_refl _ _⟩
  · by_cases h1 : i < (n : Int)
    · obtain ⟨k, hk⟩ : ∃ k : Nat, i = k := ⟨i.toNat, by omega⟩
      subst hk
      have hkn : k < xs.length := by omega
      obtain ⟨b, off, rfl, hb, hcs⟩ := hw.cells (by omega)
      have c0 := hcs k hkn
      have e : atZ xs k = xs.getD k 0 := by unfold atZ; rw [if_neg (by omega)]; rfl
      rw [e]
      obtain ⟨x, hx⟩ : ∃ x, xs.getD k 0 = x := ⟨_, rfl⟩
      rw [hx] at c0 ⊢
      clear hcs e hx hw
      go_enter Tryz.func123, Tryz.ntmps123
      go_wp2
      go_ret
      exact ⟨rfl, grown_refl _ _⟩
    · have e : atZ xs i = 0 := by
        unfold atZ
        rw [if_neg h0, List.getD_eq_getElem?_getD, List.getElem?_eq_none (by omega)]
        rfl
      have h2 : (n : Int) ≤ i := by omega
      rw [e]
      clear hw hn e
      go_enter Tryz.func123, Tryz.ntmps123
      go_wp2
      go_ret
      exact ⟨rfl, grown_refl _ _⟩
def joinL (ws : List Nat) (l : List (Nat × Nat)) (c p n : Nat) : List (Nat × Nat) :=
  if n = 0 then (if p = 0 then txStore ws l (slotH c) n else txStore ws l (p + 16) n) else txStore ws (if p = 0 then txStore ws l (slotH c) n else txStore ws l (p + 16) n) (n + 24) p
section
variable {w0 w : World} {T M : Nat} {R : Option Nat} {B D : Nat} {ws : List Nat} {l : List (Nat × Nat)}
set_option maxHeartbeats 4000000 in
theorem join_any (h : Txs w0 w T M R B D ws l) {c p n : Nat} (hc : c < 8) (hp : p + 24 < 18446744073709551616) (hn : n + 24 < 18446744073709551616) :
    Calls Tryz.prog 139 #[.pointer (some ⟨T, 0, none⟩), .int .i64 c, .int .u64 p, .int .u64 n] w fun e w' => e = .returned (.tuple #[]) ∧ ∃ R', Txs w0 w' T M R' B D ws (joinL ws l c p n) ∧ Keep w R w' R' := by
  have hs : slotP c 8 := ⟨⟨by omega, by omega⟩, by decide, by decide⟩
  have hwd : ∀ V, Calls Tryz.prog 141 #[.int .i64 c, .int .u64 8] V _ := fun V => cword_any c 8 V
  rw [decide_eq_true hs] at hwd
  obtain ⟨x8, hx8⟩ : ∃ x8, wordN c 8 = x8 := ⟨_, rfl⟩
  rw [hx8] at hwd
  have es : slotN c 8 = slotH c := by unfold slotN slotH; simp only [Int.toNat_natCast]; omega
  have hpt := fun (V : World) (hg : w.grownBy V none) => cpoint_any (h.later hg).tx c n (by omega)
  have ecs : cSet ws l c 8 n = txStore ws l (slotH c) n := by unfold cSet; rw [if_pos hs, es]
  rw [ecs] at hpt
  have hst := fun (V : World) (hg : w.grownBy V none) => txstore_any (h.later hg).tx (p + 16) n (by omega) (by omega)
  have e16 : IntKind.u64.wrap ((p : Int) + 16) = ((p + 16 : Nat) : Int) := by rw [IntKind.wrap_u64]; omega
  have e24 : IntKind.u64.wrap ((n : Int) + 24) = ((n + 24 : Nat) : Int) := by rw [IntKind.wrap_u64]; omega
  obtain ⟨p16, hp16⟩ : ∃ q, p + 16 = q := ⟨_, rfl⟩
  obtain ⟨n24, hn24⟩ : ∃ q, n + 24 = q := ⟨_, rfl⟩
  rw [hp16] at hst e16
  rw [hn24] at e24
  have hn24' : n24 < 18446744073709551616 := by omega
  unfold joinL
  rw [hp16, hn24]
  clear hx8 es ecs hp16 hn24
  by_cases hp0 : p = 0
  · subst hp0
    rw [if_pos rfl]
    obtain ⟨l1, hl1⟩ : ∃ l1, txStore ws l (slotH c) n = l1 := ⟨_, rfl⟩
    rw [hl1] at hpt ⊢
    by_cases hn0 : n = 0
    · subst hn0
      rw [if_pos rfl]
      simp only [show ((0 : Nat) : Int) = 0 from rfl] at hpt hst ⊢
      go_enter Tryz.func139, Tryz.ntmps139
      go_wp2_with (first | (go_at_call 141; (with_reducible refine (hwd _).mono ?_); rintro e w1 ⟨rfl, rfl⟩) | (go_at_call 147; (with_reducible refine (hpt _ (grown_refl _ _)).mono ?_); rintro e w2 ⟨rfl, ht2⟩))
      go_end0
      exact ⟨rfl, step_keep h ht2⟩
    · have hn0' : ¬ (n : Int) = 0 := by omega
      have en : ((n : Int) != 0) = true := by simp; omega
      rw [if_neg hn0]
      go_enter Tryz.func139, Tryz.ntmps139
      go_wp2_with (first | (go_at_call 141; (with_reducible refine (hwd _).mono ?_); rintro e w1 ⟨rfl, rfl⟩) | (go_at_call 147; (with_reducible refine (hpt _ (grown_refl _ _)).mono ?_); rintro e w2 ⟨rfl, ht2⟩; obtain ⟨R2, X2, K2⟩ := step_keep h ht2; have hs2 : ∀ V : World, w2.grownBy V none → Calls Tryz.prog 16 #[.pointer (some ⟨T, 0, none⟩), .int .u64 n24, .int .u64 0] V _ := fun (V : World) (hg : w2.grownBy V none) => txstore_any (X2.later hg).tx n24 0 hn24' (by omega)) | (go_at_call 16; (with_reducible refine (hs2 _ (grown_refl _ _)).mono ?_); rintro e w3 ⟨rfl, ht3⟩))
      go_end0
      obtain ⟨R3, X3, K3⟩ := step_keep X2 ht3
      exact ⟨rfl, R3, X3, K2.trans K3⟩
  · have hp0' : ¬ (p : Int) = 0 := by omega
    rw [if_neg hp0]
    obtain ⟨l1, hl1⟩ : ∃ l1, txStore ws l p16 n = l1 := ⟨_, rfl⟩
    rw [hl1] at hst ⊢
    by_cases hn0 : n = 0
    · subst hn0
      rw [if_pos rfl]
      simp only [show ((0 : Nat) : Int) = 0 from rfl] at hpt hst ⊢
      go_enter Tryz.func139, Tryz.ntmps139
      go_wp2_with (first | (go_at_call 141; (with_reducible refine (hwd _).mono ?_); rintro e w1 ⟨rfl, rfl⟩) | (go_at_call 16; (with_reducible refine (hst _ (grown_refl _ _)).mono ?_); rintro e w2 ⟨rfl, ht2⟩))
      go_end0
      exact ⟨rfl, step_keep h ht2⟩
    · have hn0' : ¬ (n : Int) = 0 := by omega
      have en : ((n : Int) != 0) = true := by simp; omega
      rw [if_neg hn0]
      go_enter Tryz.func139, Tryz.ntmps139
      go_wp2_with (first | (go_at_call 141; (with_reducible refine (hwd _).mono ?_); rintro e w1 ⟨rfl, rfl⟩) | (go_at_call 16; (with_reducible refine (hst _ (grown_refl _ _)).mono ?_); rintro e w2 ⟨rfl, ht2⟩; obtain ⟨R2, X2, K2⟩ := step_keep h ht2; have hs2 := fun (V : World) (hg : w2.grownBy V none) => txstore_any (X2.later hg).tx n24 p hn24' (by omega)) | (go_at_call 16; (with_reducible refine (hs2 _ (grown_refl _ _)).mono ?_); rintro e w3 ⟨rfl, ht3⟩))
      go_end0
      obtain ⟨R3, X3, K3⟩ := step_keep X2 ht3
      exact ⟨rfl, R3, X3, K2.trans K3⟩
set_option maxHeartbeats 2000000 in
theorem link_any (h : Txs w0 w T M R B D ws l) {c off : Nat} (hc : c < 8) (ho : off + 24 < 18446744073709551616) (hh : cGet ws l c 8 + 24 < 18446744073709551616) :
    Calls Tryz.prog 116 #[.pointer (some ⟨T, 0, none⟩), .int .i64 c, .int .u64 off] w fun e w' => e = .returned (.tuple #[]) ∧ ∃ R', Txs w0 w' T M R' B D ws (joinL ws (joinL ws l c 0 off) c off (cGet ws l c 8)) ∧ Keep w R w' R' := by
  have hhd := chead_any h.tx c
  obtain ⟨x, hx⟩ : ∃ x, cGet ws l c 8 = x := ⟨_, rfl⟩
  rw [hx] at hhd hh ⊢
  have hj1 : ∀ V : World, w.grownBy V none → Calls Tryz.prog 139 #[.pointer (some ⟨T, 0, none⟩), .int .i64 c, .int .u64 0, .int .u64 off] V _ := fun V hg => join_any (h.later hg) hc (by decide) ho
  obtain ⟨l1, hl1⟩ : ∃ l1, joinL ws l c 0 off = l1 := ⟨_, rfl⟩
  rw [hl1] at hj1 ⊢
  clear hx hl1
  go_enter Tryz.func116, Tryz.ntmps116
  go_wp2_with (first | (go_at_call 78; (with_reducible refine hhd.mono ?_); rintro e w1 ⟨rfl, hg1⟩) | (go_at_call 139; (with_reducible refine (hj1 _ hg1).mono ?_); rintro e w2 ⟨rfl, R2, X2, K2⟩; have hj2 := join_any X2 hc ho hh) | (go_at_call 139; (with_reducible refine hj2.mono ?_); rintro e w3 ⟨rfl, R3, X3, K3⟩))
  go_end0
  exact ⟨rfl, R3, X3, (Keep.of_grown hg1).trans (K2.trans K3)⟩
set_option maxHeartbeats 2000000 in
theorem unlink_any (h : Txs w0 w T M R B D ws l) {c off : Nat} (hc : c < 8) (ho : off + 24 < 18446744073709551616) (hp : txSee ws l (off + 24) + 24 < 18446744073709551616) (hn : txSee ws l (off + 16) + 24 < 18446744073709551616) :
    Calls Tryz.prog 117 #[.pointer (some ⟨T, 0, none⟩), .int .i64 c, .int .u64 off] w fun e w' => e = .returned (.tuple #[]) ∧ ∃ R', Txs w0 w' T M R' B D ws (joinL ws l c (txSee ws l (off + 24)) (txSee ws l (off + 16))) ∧ Keep w R w' R' := by
  have hl24 := fun (V : World) (hg : w.grownBy V none) => txload_any (h.later hg).tx (off + 24) ho
  have hl16 := fun (V : World) (hg : w.grownBy V none) => txload_any (h.later hg).tx (off + 16) (by omega)
  have e16 : IntKind.u64.wrap ((off : Int) + 16) = ((off + 16 : Nat) : Int) := by rw [IntKind.wrap_u64]; omega
  have e24 : IntKind.u64.wrap ((off : Int) + 24) = ((off + 24 : Nat) : Int) := by rw [IntKind.wrap_u64]; omega
  obtain ⟨p, ep⟩ : ∃ p, txSee ws l (off + 24) = p := ⟨_, rfl⟩
  obtain ⟨n, en⟩ : ∃ n, txSee ws l (off + 16) = n := ⟨_, rfl⟩
  rw [ep] at hl24 hp ⊢
  rw [en] at hl16 hn ⊢
  obtain ⟨o16, eo16⟩ : ∃ x, off + 16 = x := ⟨_, rfl⟩
  obtain ⟨o24, eo24⟩ : ∃ x, off + 24 = x := ⟨_, rfl⟩
  rw [eo16] at hl16 e16
  rw [eo24] at hl24 e24
  have hj := fun (V : World) (hg : w.grownBy V none) => join_any (h.later hg) hc hp hn
  clear ep en eo16 eo24 ho
  have HG : w.grownBy w none := grown_refl _ _
  go_enter Tryz.func117, Tryz.ntmps117
  go_wp2_with (first | (go_at_call 17; (with_reducible refine (hl24 _ HG).mono ?_); rintro e w1 ⟨rfl, hg1⟩; replace HG := grown_trans HG hg1) | (go_at_call 17; (with_reducible refine (hl16 _ HG).mono ?_); rintro e w1 ⟨rfl, hg1⟩; replace HG := grown_trans HG hg1) | (go_at_call 139; (with_reducible refine (hj _ HG).mono ?_); rintro e w3 ⟨rfl, R3, X3, K3⟩))
  go_end0
  exact ⟨rfl, R3, X3, (Keep.of_grown HG).trans K3⟩
end
end Go.Proofs.YtcbdbflgfhbikaaGreat
namespace Go.Proofs.YtcbdbflgfhbikaaGreat
open Go.RowKit Go.Shelf
set_option maxRecDepth 100000
attribute [local go_sem] Oper.semAt_some
theorem few_places : ∀ (n : Nat) (xs : List Nat), xs.Nodup → (∀ x ∈ xs, x % 8 = 0 ∧ x < 8 * n) → xs.length ≤ n
  | 0, xs, _, h => by
    cases xs with
    | nil => exact Nat.le_refl _
    | cons x r => have := h x (by simp); omega
  | n + 1, xs, hn, h => by
    have h1 := few_places n (xs.erase (8 * n)) (hn.erase _) (fun x hx => by
      obtain ⟨h2, h3⟩ := hn.mem_erase_iff.1 hx
      have := h x h3
      omega)
    by_cases hm : 8 * n ∈ xs
    · rw [List.length_erase_of_mem hm] at h1; omega
    · rw [List.erase_of_not_mem hm] at h1; omega
theorem OwnW.snoc {w : World} {base : Nat} {v : Value} {xs : List Nat} {y : Nat} (h : w.ownsRow base 23 1 v (xs.length + 1) (cellsU xs ++ [.int .u64 (y : Nat)])) : OwnW w base v (xs ++ [y]) := by
  unfold OwnW
  have e1 : cellsU (xs ++ [y]) = cellsU xs ++ [.int .u64 (y : Nat)] := by simp [cellsU]
  rw [e1, List.length_append]
  exact h
end Go.Proofs.YtcbdbflgfhbikaaGreat
namespace Go.Proofs.YtcbdbflgfhbikaaGreat
open Go.RowKit
set_option maxRecDepth 100000
theorem atZ_nat (xs : List Nat) (k : Nat) : atZ xs k = xs.getD k 0 := by
  unfold atZ
  rw [if_neg (by omega)]
  rfl
theorem atZ_pred (xs : List Nat) (k : Nat) : atZ xs ((k : Int) - 1) = if k = 0 then 0 else xs.getD (k - 1) 0 := by
  unfold atZ
  by_cases h : k = 0
  · rw [if_pos (by omega), if_pos h]
  · rw [if_neg (by omega), if_neg h]
    congr 1
    omega
set_option maxHeartbeats 8000000 in
theorem lcheck_any {w : World} {T M B D n c : Nat} {R : Option Nat} {ws : List Nat} {l : List (Nat × Nat)} {la : Option Addr} {xs : List Nat} (h : Thinks w T M R B D ws l) (hm : ws.length ≤ 131072) (hw : WordsAt w la xs) (hn : xs.length = n) (hln : n ≤ 1000000) (hx64 : ∀ i, xs.getD i 0 < 18446744073709551616) (d : Int) :
    Calls Tryz.prog 38 #[.pointer (some ⟨T, 0, none⟩), .int .i64 d, .slice la n c] w fun e w' => e = .returned (.bool (decide (ckL (txSee ws l) (cGet ws l d 8) xs))) ∧ w.grownBy w' none := by
  have hpl := places_any la n c w
  obtain ⟨W1, hW1⟩ : ∃ W1, w.alloc (.cells #[.slice la n c] 27) = W1 := ⟨_, rfl⟩
  have hg0 : w.grownBy W1 none := by rw [← hW1]; exact World.grownBy_alloc _ _ _
  have hbx : ∀ V, W1.grownBy V none → V.cell? ⟨w.heap.size, 0, none⟩ = some (.slice la n c) := fun V hg => by
    have h1 : W1.heap[w.heap.size]? = some (.cells #[.slice la n c] 27 (0, 0)) := by rw [← hW1]; exact heap_alloc_new' _ _
    have h2 := (hg.block _ (lt_of_block h1) (by simp)).trans h1
    exact cell_of_one h2
  rw [hW1] at hpl
  have hhd := fun (V : World) (hg : W1.grownBy V none) => chead_any (h.later (grown_trans hg0 hg)) d
  have hat := fun (V : World) (hg : W1.grownBy V none) (i : Int) => places1_any (hbx V hg) (hw.later (grown_trans hg0 hg)) hn i
  have hld := fun (V : World) (hg : W1.grownBy V none) (q : Nat) (hq : q < 18446744073709551616) => txload_any (h.later (grown_trans hg0 hg)) q hq
  obtain ⟨f, hf⟩ : ∃ f, txSee ws l = f := ⟨_, rfl⟩
  obtain ⟨x, hx⟩ : ∃ x, cGet ws l d 8 = x := ⟨_, rfl⟩
  obtain ⟨b, hb⟩ : ∃ b, w.heap.size = b := ⟨_, rfl⟩
  rw [hx] at hhd
  rw [hf] at hld
  rw [hf, hx]
  rw [hb] at hat hpl
  have hiff := ckL_iff f x xs
  rw [headD_get, hn] at hiff
  have hws := fun (V : World) (hg : W1.grownBy V none) => hw.later (grown_trans hg0 hg)
  have HAT := Lib.hid hat
  have hat0 : ∀ V : World, W1.grownBy V none → Calls Tryz.prog 123 #[.int .i64 0, .pointer (some ⟨b, 0, none⟩)] V _ := fun V hg => HAT.out V hg 0
  have e00 : atZ xs 0 = xs.getD 0 0 := atZ_nat xs 0
  rw [e00] at hat0
  have HN := Lib.hid hn
  have HW := Lib.hid hws
  have HI := Lib.hid hiff
  have HLD := Lib.hid hld
  have H64 := Lib.hid hx64
  clear h hw hx hf hW1 hbx hb hat hiff hws hld hx64 e00 hn
  obtain ⟨y, hy⟩ : ∃ y, xs.getD 0 0 = y := ⟨_, rfl⟩
  rw [hy] at HI hat0
  have HG : W1.grownBy W1 none := grown_refl _ _
  by_cases hxy : x = y
  · subst hxy
    have exy : ((x : Int) != (x : Int)) = false := by simp
    go_enter Tryz.func38, Tryz.ntmps38
    go_wp2_with (first | (go_at_call 77; (with_reducible refine hpl.mono ?_); rintro e w1 ⟨rfl, rfl⟩) | (go_at_call 78; (with_reducible refine (hhd _ HG).mono ?_); rintro e w2 ⟨rfl, hg2⟩; replace HG := grown_trans HG hg2) | (go_at_call 123; (with_reducible refine (hat0 _ HG).mono ?_); rintro e w3 ⟨rfl, hg3⟩; replace HG := grown_trans HG hg3))
    clear hhd hpl hat0
    go_loopw [20] (fun i wr => ∃ k : Nat, k ≤ n ∧ i = .int .i64 k ∧ W1.grownBy wr none ∧ ∀ j, j < k → ckAt f xs j) (fun i _ => n - (intOf i).toNat)
    case atStart => exact ⟨0, Nat.zero_le _, rfl, HG, fun j hj => absurd hj (Nat.not_lt_zero _)⟩
    case round =>
      obtain ⟨k, hk, rfl, hgr, hall⟩ := hrel
      have HA := Lib.hid hall
      clear hall HG
      by_cases hkn : k < n
      · have hkn' : (k : Int) < (n : Int) := by omega
        obtain ⟨bb, off, rfl, hbb, hcs⟩ := (HW.out wr hgr).cells (by rw [HN.out]; omega)
        have u0 := hcs k (by rw [HN.out]; exact hkn)
        obtain ⟨z, hz⟩ : ∃ z, xs.getD k 0 = z := ⟨_, rfl⟩
        have hz64 := H64.out k
        rw [hz] at u0 hz64
        obtain ⟨z16, hz16⟩ : ∃ q, (z + 16) % 18446744073709551616 = q := ⟨_, rfl⟩
        obtain ⟨z24, hz24⟩ : ∃ q, (z + 24) % 18446744073709551616 = q := ⟨_, rfl⟩
        have e16 : IntKind.u64.wrap ((z : Int) + 16) = (z16 : Nat) := by rw [IntKind.wrap_u64]; omega
        have e24 : IntKind.u64.wrap ((z : Int) + 24) = (z24 : Nat) := by rw [IntKind.wrap_u64]; omega
        have hl16 := fun (V : World) (hg : W1.grownBy V none) => HLD.out V hg z16 (by omega)
        have hl24 := fun (V : World) (hg : W1.grownBy V none) => HLD.out V hg z24 (by omega)
        have han := fun (V : World) (hg : W1.grownBy V none) => HAT.out V hg ((k : Int) + 1)
        have hap := fun (V : World) (hg : W1.grownBy V none) => HAT.out V hg ((k : Int) - 1)
        have en : atZ xs ((k : Int) + 1) = xs.getD (k + 1) 0 := atZ_nat xs (k + 1)
        rw [en] at han
        rw [atZ_pred] at hap
        obtain ⟨r, hr⟩ : ∃ r, f z16 = r := ⟨_, rfl⟩
        obtain ⟨t, ht⟩ : ∃ t, f z24 = t := ⟨_, rfl⟩
        rw [hr] at hl16
        rw [ht] at hl24
        obtain ⟨nx, hnx⟩ : ∃ nx, xs.getD (k + 1) 0 = nx := ⟨_, rfl⟩
        obtain ⟨ah, hah⟩ : ∃ ah, (if k = 0 then 0 else xs.getD (k - 1) 0) = ah := ⟨_, rfl⟩
        have hck : ckAt f xs k ↔ r = nx ∧ t = ah := by
          unfold ckAt
          rw [hz, hz16, hz24, hr, ht, hnx, hah]
        rw [hnx] at han
        rw [hah] at hap
        have HCK := Lib.hid hck
        clear hck hz16 hz24 hr ht hz hz64 hnx hah en hcs
        have HG := hgr
        by_cases hrn : r = nx
        · subst hrn
          have e1 : ((r : Int) != (r : Int)) = false := by simp
          by_cases hta : t = ah
          · subst hta
            have e2 : ((t : Int) != (t : Int)) = false := by simp
            go_wp2_with (first | (go_at_call 17; (with_reducible refine (hl16 _ HG).mono ?_); rintro e w4 ⟨rfl, hg4⟩; replace HG := grown_trans HG hg4) | (go_at_call 123; (with_reducible refine (han _ HG).mono ?_); rintro e w5 ⟨rfl, hg5⟩; replace HG := grown_trans HG hg5) | (go_at_call 17; (with_reducible refine (hl24 _ HG).mono ?_); rintro e w4 ⟨rfl, hg4⟩; replace HG := grown_trans HG hg4) | (go_at_call 123; (with_reducible refine (hap _ HG).mono ?_); rintro e w5 ⟨rfl, hg5⟩; replace HG := grown_trans HG hg5))
            exact ⟨⟨k + 1, by omega, by go_num, HG, fun j hj => by
              rcases Nat.lt_succ_iff_lt_or_eq.1 hj with h9 | rfl
              · exact HA.out j h9
              · exact HCK.out.2 (by simp)⟩, by simp [intOf]; omega⟩
          · have hta' : ¬ (t : Int) = (ah : Int) := by omega
            have e2 : ((t : Int) != (ah : Int)) = true := by simp; omega
            go_wp2_with (first | (go_at_call 17; (with_reducible refine (hl16 _ HG).mono ?_); rintro e w4 ⟨rfl, hg4⟩; replace HG := grown_trans HG hg4) | (go_at_call 123; (with_reducible refine (han _ HG).mono ?_); rintro e w5 ⟨rfl, hg5⟩; replace HG := grown_trans HG hg5) | (go_at_call 17; (with_reducible refine (hl24 _ HG).mono ?_); rintro e w4 ⟨rfl, hg4⟩; replace HG := grown_trans HG hg4) | (go_at_call 123; (with_reducible refine (hap _ HG).mono ?_); rintro e w5 ⟨rfl, hg5⟩; replace HG := grown_trans HG hg5))
            go_ret
            refine ⟨?_, grown_trans hg0 HG⟩
            rw [decide_eq_false (fun hck => hta (HCK.out.1 ((HI.out.1 hck).2 _ hkn)).2)]
            rfl
        · have hrn' : ¬ (r : Int) = (nx : Int) := by omega
          have e1 : ((r : Int) != (nx : Int)) = true := by simp; omega
          go_wp2_with (first | (go_at_call 17; (with_reducible refine (hl16 _ HG).mono ?_); rintro e w4 ⟨rfl, hg4⟩; replace HG := grown_trans HG hg4) | (go_at_call 123; (with_reducible refine (han _ HG).mono ?_); rintro e w5 ⟨rfl, hg5⟩; replace HG := grown_trans HG hg5))
          go_ret
          refine ⟨?_, grown_trans hg0 HG⟩
          rw [decide_eq_false (fun hck => hrn (HCK.out.1 ((HI.out.1 hck).2 _ hkn)).1)]
          rfl
      · obtain rfl : k = n := by omega
        have hkn' : ¬ (k : Int) < (k : Int) := by omega
        go_wp2
        go_ret
        refine ⟨?_, grown_trans hg0 hgr⟩
        rw [decide_eq_true (HI.out.2 ⟨by simp, fun i hi => HA.out i hi⟩)]
        rfl
  · have hxy' : ¬ (x : Int) = (y : Int) := by omega
    have exy : ((x : Int) != (y : Int)) = true := by simp; omega
    rw [decide_eq_false (fun hck => hxy (HI.out.1 hck).1)]
    go_enter Tryz.func38, Tryz.ntmps38
    go_wp2_with (first | (go_at_call 77; (with_reducible refine hpl.mono ?_); rintro e w1 ⟨rfl, rfl⟩) | (go_at_call 78; (with_reducible refine (hhd _ HG).mono ?_); rintro e w2 ⟨rfl, hg2⟩; replace HG := grown_trans HG hg2) | (go_at_call 123; (with_reducible refine (hat0 _ HG).mono ?_); rintro e w3 ⟨rfl, hg3⟩; replace HG := grown_trans HG hg3))
    go_ret
    exact ⟨rfl, grown_trans hg0 HG⟩
end Go.Proofs.YtcbdbflgfhbikaaGreat
namespace Go.Proofs.YtcbdbflgfhbikaaGreat
open Go.RowKit
section
variable {w0 w w' : World} {T : Nat} {R : Option Nat} {U : List Nat} {tg : Nat → Nat} {L : Nat → List Nat} {c off : Nat} {la : Option Addr} {m k : Nat}
theorem Ledg.near {f : Nat → Nat} (h : Ledg U f L) (hc : c < 8) (ho : off ∈ L c) : (f (off + 24) ≠ 0 → f (off + 24) ∈ U) ∧ (f (off + 16) ≠ 0 → f (off + 16) ∈ U) := by
  obtain ⟨us, bs, hl⟩ := List.append_of_mem ho
  have hst := h.strung c hc
  rw [hl, strung_append, strung_cons] at hst
  obtain ⟨s1, s2, s3, s4⟩ := hst
  refine ⟨fun h0 => ?_, fun h0 => ?_⟩
  · rw [s2] at h0 ⊢
    refine h.on c hc _ ?_
    rw [hl]
    rcases List.eq_nil_or_concat us with e | ⟨r, z, e⟩
    · subst e; exact absurd rfl h0
    · rw [List.concat_eq_append] at e
      subst e
      simp
  · rw [s3] at h0 ⊢
    refine h.on c hc _ ?_
    rw [hl]
    cases bs with
    | nil => exact absurd rfl h0
    | cons b r => simp
end
end Go.Proofs.YtcbdbflgfhbikaaGreat
namespace Go.Proofs.YtcbdbflgfhbikaaGreat
open Go.RowKit
set_option maxRecDepth 100000
section
variable {w0 w : World} {T off m k : Nat} {R : Option Nat} {U : List Nat} {tg : Nat → Nat} {L : Nat → List Nat} {la : Option Addr}
end
theorem hn1 (x0 x1 : Nat) (h : x0 ≠ x1) (d : Nat) (_ : d < 8) : x1 ∉ setL (fun _ => []) 1 [x0] d := by
  unfold setL
  split
  · simp; exact fun e => h e.symm
  · simp
end Go.Proofs.YtcbdbflgfhbikaaGreat
