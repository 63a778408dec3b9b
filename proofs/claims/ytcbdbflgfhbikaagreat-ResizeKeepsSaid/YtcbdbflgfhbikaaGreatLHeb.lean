/-
  Texts of one layer, one behind the other: memory, contracts of the functions, and what follows of them.
  Conditions: as each theorem says.
-/
import Derived.Test.YtcbdbflgfhbikaaGreatLHea
import Derived.Test.YtcbdbflgfhbikaaGreatLTxb
import Derived.Deep.QuietTactic
import Derived.BigQuiet
set_option linter.unusedVariables false
set_option linter.unusedSimpArgs false
namespace Go.Proofs.YtcbdbflgfhbikaaGreat
open Go.RowKit
theorem fmtW_def (K n : Nat) : fmtW K n = put (put (put (put (put (put (put (List.replicate K 0) 0 7161130718081542961) 8 1) 16 n) 40 (sumN n)) 32 3776) 3776 (n - 3776)) (n - 8) (n - 3776) := rfl
theorem zeros_get (K j : Nat) : (List.replicate K 0).getD j 0 = 0 := by
  rw [List.getD_eq_getElem?_getD, List.getElem?_replicate]
  split <;> rfl
theorem getW_zeros (K off : Nat) : getW (List.replicate K 0) off = 0 := by
  unfold getW
  split
  · rw [List.getD_eq_getElem?_getD, List.getElem?_replicate]
    split <;> rfl
  · rfl
theorem getW_fmt {K n : Nat} (h : fitsP n (8 * K)) (off : Nat) : getW (fmtW K n) off = if off = n - 8 then n - 3776 else if off = 3776 then n - 3776 else if off = 32 then 3776 else if off = 40 then sumN n else if off = 16 then n else if off = 8 then 1 else if off = 0 then 7161130718081542961 else 0 := by
  obtain ⟨h1, h2, h3⟩ := h
  have st : ∀ {z : List Nat} (x : Nat), z.length = K → x % 8 = 0 → x < 3824 → stands z x := fun x hz hx hx2 => ⟨hx, by rw [hz]; omega⟩
  rw [fmtW_def]
  rw [getW_put' _ _ ⟨by omega, by simp only [put_len, List.length_replicate]; omega⟩]
  rw [getW_put' _ _ (st 3776 (by simp only [put_len, List.length_replicate]) (by decide) (by decide))]
  rw [getW_put' _ _ (st 32 (by simp only [put_len, List.length_replicate]) (by decide) (by decide))]
  rw [getW_put' _ _ (st 40 (by simp only [put_len, List.length_replicate]) (by decide) (by decide))]
  rw [getW_put' _ _ (st 16 (by simp only [put_len, List.length_replicate]) (by decide) (by decide))]
  rw [getW_put' _ _ (st 8 (by simp only [put_len, List.length_replicate]) (by decide) (by decide))]
  rw [getW_put' _ _ (st 0 (by simp only [List.length_replicate]) (by decide) (by decide)), getW_zeros]
def fmtS (K n : Nat) : List Nat := (((((((List.replicate K 0).set 0 7161130718081542961).set 1 1).set 2 n).set 4 3776).set 5 (sumN n)).set 472 (n - 3776)).set (n / 8 - 1) (n - 3776)
theorem put_set {ws : List Nat} {off : Nat} (q v : Nat) (h : off = 8 * q) (hl : q < ws.length) : put ws off v = ws.set q v := by
  subst h
  unfold put
  rw [if_pos ⟨by omega, by omega⟩, show 8 * q / 8 = q by omega]
theorem fmtS_eq {K n : Nat} (h : fitsP n (8 * K)) : fmtS K n = fmtW K n := by
  obtain ⟨h1, h2, h3⟩ := h
  rw [fmtW_def]
  unfold fmtS
  have hl : (List.replicate K 0).length = K := List.length_replicate
  generalize List.replicate K 0 = z at hl
  rw [put_set 0 _ rfl (by omega), put_set 1 _ rfl (by simp; omega), put_set 2 _ rfl (by simp; omega), put_set 5 _ rfl (by simp; omega), put_set 4 _ rfl (by simp; omega), put_set 472 _ rfl (by simp; omega), put_set (n / 8 - 1) _ (by omega) (by simp; omega), List.set_comm (i := 5) (j := 4) _ _ (by decide)]
theorem OwnW.set {w : World} {base g cp : Nat} {ws : List Nat} (hown : OwnW w base (.slice (some ⟨g, 0, none⟩) ws.length cp) ws) (q x : Nat) :
    OwnW (w.setCell ⟨g, q, none⟩ (.int .u64 (x : Nat))) base (.slice (some ⟨g, 0, none⟩) (ws.set q x).length cp) (ws.set q x) := by
  have hs := World.ownsRow.stored hown q (.int .u64 (x : Nat))
  have e : (cellsU ws).set q (.int .u64 (x : Nat)) = cellsU (ws.set q x) := by simp [cellsU, List.map_set]
  unfold OwnW
  rw [List.length_set, ← e]
  exact hs.1
theorem rformat_no (K n : Nat) (h1 : 1 ≤ K) (hK : K ≤ 131072) (h : ¬ fitsP n (8 * K)) (w : World) :
    Calls Tryz.prog 61 #[.int .u64 (8 * K : Nat), .int .u64 n] w fun e w' => ∃ v, e = .returned (.tuple #[v, .int .i64 2]) ∧ w.grownBy w' none ∧ OwnW w' w.heap.size v (List.replicate K 0) := by
  have hc := fun w => rnew_yes K h1 hK w
  have hf := fun w => rfits_any n (8 * K) w
  rw [decide_eq_false h] at hf
  obtain ⟨al, ea⟩ : ∃ x, 8 * K = x := ⟨_, rfl⟩
  rw [ea] at hf ⊢
  simp only [ea] at hc
  clear ea
  go_enter Tryz.func61, Tryz.ntmps61
  go_wp2_with (first | (go_at_call 109; (with_reducible refine (hc _).mono ?_); rintro e w1 ⟨rfl, hg1, ho1⟩) | (go_at_call 110; (with_reducible refine (hf _).mono ?_); rintro e w2 ⟨rfl, rfl⟩))
  go_ret2
  exact ⟨_, rfl, hg1, ho1⟩
set_option maxRecDepth 100000 in
set_option maxHeartbeats 1000000 in
theorem rformat_yes (K n : Nat) (hK : K ≤ 131072) (h : fitsP n (8 * K)) (w : World) :
    Calls Tryz.prog 61 #[.int .u64 (8 * K : Nat), .int .u64 n] w fun e w' => ∃ v, e = .returned (.tuple #[v, .int .i64 0]) ∧ w.grownBy w' none ∧ OwnW w' w.heap.size v (fmtW K n) := by
  have h1 : 1 ≤ K := by have := h.2.1; have := h.2.2; omega
  have hc := fun w => rnew_yes K h1 hK w
  have hf := fun w => rfits_any n (8 * K) w
  have hn : n < 18446744073709551616 := by have := h.2.2; omega
  have hsm := fun w => rsum_any n hn w
  rw [decide_eq_true h] at hf
  have hS := Lib.hid (fmtS_eq h)
  obtain ⟨q, hq⟩ : ∃ q, n / 8 - 1 = q := ⟨_, rfl⟩
  have hqK : q < K := by have := h.2.2; have := h.2.1; omega
  have e1 : IntKind.u64.wrap ((n : Int) - 3776) = (n - 3776 : Nat) := by have := h.2.1; rw [IntKind.wrap_u64]; omega
  obtain ⟨p, hp⟩ : ∃ p, n / 8 = p := ⟨_, rfl⟩
  have e2 : IntKind.u64.wrap ((p : Int) - 1) = (q : Nat) := by have := h.2.1; rw [IntKind.wrap_u64]; omega
  have e3 : IntKind.u64.wrap ((n : Int) / 8) = (p : Nat) := by rw [IntKind.wrap_u64]; omega
  have h473 : 478 ≤ K := by have := h.2.1; have := h.2.2; omega
  obtain ⟨al, ea⟩ : ∃ x, 8 * K = x := ⟨_, rfl⟩
  rw [ea] at hf ⊢
  simp only [ea] at hc
  have hq5 : 476 < q := by have := h.2.1; omega
  have k0 : ((K : Int) == 0) = false := by rw [beq_eq_false_iff_ne]; omega
  have n0 : ¬ q = 0 := by omega
  have n1 : ¬ q = 1 := by omega
  have n2 : ¬ q = 2 := by omega
  have n4 : ¬ q = 4 := by omega
  have n5 : ¬ q = 5 := by omega
  have n6 : ¬ q = 472 := by omega
  obtain ⟨sm, es⟩ : ∃ x, sumN n = x := ⟨_, rfl⟩
  obtain ⟨b, eb⟩ : ∃ x, n - 3776 = x := ⟨_, rfl⟩
  simp only [es] at hsm
  rw [eb] at e1
  have HQ := Lib.hid hq
  have HE := Lib.hid es
  have HB := Lib.hid eb
  clear ea h hq es eb hn hp
  go_enter Tryz.func61, Tryz.ntmps61
  go_wp2_with (first | (go_at_call 109; (with_reducible refine (hc _).mono ?_); rintro e w1 ⟨rfl, hg1, ho1⟩; have ho1' : OwnW w1 w.heap.size (.slice (some ⟨w.heap.size, 0, none⟩) (List.replicate K 0).length K) (List.replicate K 0) := (by rw [List.length_replicate]; exact ho1); have hfr := World.ownsRow.frozenAt ho1'; have hcl : ∀ j, j < K → w1.cell? ⟨w.heap.size, j, none⟩ = some (.int .u64 0) := (fun j hj => by have := OwnW.at_ ho1' j (by rw [List.length_replicate]; exact hj); rw [this, zeros_get]; rfl); have c0 := hcl 0 (by omega); have c1 := hcl 1 (by omega); have c2 := hcl 2 (by omega); have c4 := hcl 4 (by omega); have c5 := hcl 5 (by omega); have c6 := hcl 472 (by omega); have c7 := hcl q hqK; clear hcl; have HO := Lib.hid ho1'; clear ho1 ho1') | (go_at_call 110; (with_reducible refine (hf _).mono ?_); rintro e w2 ⟨rfl, rfl⟩) | (go_at_call 111; (with_reducible refine (hsm _).mono ?_); rintro e w2 ⟨rfl, rfl⟩))
  go_ret2
  have G : w1.grownBy _ (some w.heap.size) := grown_trans (grown_set w1 w.heap.size 0 (.int .u64 7161130718081542961)) (grown_trans (grown_set _ _ 1 (.int .u64 1)) (grown_trans (grown_set _ _ 2 (.int .u64 n)) (grown_trans (grown_set _ _ 4 (.int .u64 3776)) (grown_trans (grown_set _ _ 5 (.int .u64 sm)) (grown_trans (grown_set _ _ 472 (.int .u64 b)) (grown_set _ _ q (.int .u64 b)))))))
  have O := ((((((HO.out.set 0 7161130718081542961).set 1 1).set 2 n).set 4 3776).set 5 sm).set 472 b).set q b
  have e : fmtW K n = ((((((List.replicate K 0).set 0 7161130718081542961).set 1 1).set 2 n).set 4 3776).set 5 sm |>.set 472 b).set q b := by
    rw [← hS.out]
    unfold fmtS
    rw [HE.out, HB.out, HQ.out]
  rw [e]
  simp only [List.length_set, List.length_replicate] at O
  exact ⟨_, rfl, grown_step hg1 G (fun i hi => .inl (by injection hi with hi; omega)), O⟩
end Go.Proofs.YtcbdbflgfhbikaaGreat
namespace Go.Proofs.YtcbdbflgfhbikaaGreat
open Go.RowKit
theorem see_nil (ws : List Nat) (off : Nat) : txSee ws [] off = getW ws off := rfl
end Go.Proofs.YtcbdbflgfhbikaaGreat
namespace Go.Proofs.YtcbdbflgfhbikaaGreat
open Go.RowKit
theorem fmt_yes {ws : List Nat} {n : Nat} (h : fitsP n (8 * ws.length)) : fmt ws n = fmtW ws.length n ∧ fmtE ws n = 0 := ⟨if_pos h, if_pos h⟩
theorem fmt_no {ws : List Nat} {n : Nat} (h : ¬ fitsP n (8 * ws.length)) : fmt ws n = ws ∧ fmtE ws n = 2 := ⟨if_neg h, if_neg h⟩
theorem fmt_len (ws : List Nat) (n : Nat) : (fmt ws n).length = ws.length := by unfold fmt; split; exact fmtW_len _ _; rfl
end Go.Proofs.YtcbdbflgfhbikaaGreat
namespace Go.Proofs.YtcbdbflgfhbikaaGreat
open Go.RowKit
theorem new48 (w : World) : Calls Tryz.prog 59 #[.int .u64 4800] w fun e w' => e = .returned (.pointer (some ⟨w.heap.size + 1, 0, none⟩)) ∧ w.grownBy w' none ∧ IsSeg w' (w.heap.size + 1) w.heap.size (List.replicate 600 0) := new_yes 600 (by decide) (by decide) w
theorem len48 (n : Nat) : (fmt (List.replicate 600 0) n).length = 600 := by rw [fmt_len, List.length_replicate]
section
variable {n : Nat}
end
theorem Txs.first {w0 w1 w2 w3 : World} {ws ws' : List Nat} (hg1 : w0.grownBy w1 none) (hg2 : w1.grownBy w2 none) (hs : IsSeg w2 (w1.heap.size + 1) w1.heap.size ws) {w2' : World} (hg2' : w2.grownBy w2' (some w1.heap.size)) (hg3 : w2'.grownBy w3 none)
    (ht : Thinks w3 (w2'.heap.size + 1) w2'.heap.size none (w1.heap.size + 1) w1.heap.size ws' []) : Txs w0 w3 (w2'.heap.size + 1) w2'.heap.size none (w1.heap.size + 1) w1.heap.size ws' [] := by
  have h1 := hg1.size
  have h2 := hg2.size
  have h3 := hg2'.size
  refine ⟨ht, grown_trans hg1 (grown_trans (grown_new (grown_trans (grown_any hg2 _) hg2') (Nat.le_refl _)) hg3), by omega, by omega, (fun g hg => by cases hg), by omega, by omega⟩
section
variable {w0 wm w w' : World} {T M : Nat} {R : Option Nat} {B D : Nat} {ws : List Nat} {l : List (Nat × Nat)} {T' M' : Nat} {R' : Option Nat} {l' l2 : List (Nat × Nat)}
end
end Go.Proofs.YtcbdbflgfhbikaaGreat
