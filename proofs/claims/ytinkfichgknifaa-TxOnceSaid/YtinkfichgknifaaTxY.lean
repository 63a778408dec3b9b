/-
  The contract of 'awake' of layer 3, and of 'words': all words of a segment of 80 bytes.
  No condition.
-/
import Derived.Test.YtinkfichgknifaaTxX
namespace Go.Proofs.Ytinkfichgknifaa
open Go.RowKit
set_option linter.unusedVariables false
set_option linter.unusedSimpArgs false

theorem aw_new (w : World) : Calls Try.prog 29 #[.int .u64 32] w fun e w' => e = .returned (.pointer (some ⟨w.heap.size + 1, 0, none⟩)) ∧ w.grownBy w' none ∧ IsSeg w' (w.heap.size + 1) w.heap.size [0, 0, 0, 0] := new_yes 4 (by decide) (by decide) w
section
variable {w0 w : World} {T M : Nat} {R : Option Nat} {B D : Nat}
theorem aw_store1 (h : Txs w0 w T M R B D [0, 0, 0, 0] []) : Calls Try.prog 27 #[.pointer (some ⟨T, 0, none⟩), .int .u64 8, .int .u64 1] w fun e w' => e = .returned (.tuple #[]) ∧ ∃ R', Txs w0 w' T M R' B D [0, 0, 0, 0] [(8, 1)] :=
  (txstore_any h.tx 8 1 (by decide) (by decide)).mono fun e w' ⟨h1, h2⟩ => by
    obtain ⟨R', h3, _⟩ := h.step h2
    exact ⟨h1, R', h3⟩
theorem aw_store2 (h : Txs w0 w T M R B D [0, 0, 0, 0] [(8, 1)]) : Calls Try.prog 27 #[.pointer (some ⟨T, 0, none⟩), .int .u64 8, .int .u64 2] w fun e w' => e = .returned (.tuple #[]) ∧ ∃ R', Txs w0 w' T M R' B D [0, 0, 0, 0] [(8, 2)] :=
  (txstore_any h.tx 8 2 (by decide) (by decide)).mono fun e w' ⟨h1, h2⟩ => by
    obtain ⟨R', h3, _⟩ := h.step h2
    exact ⟨h1, R', h3⟩
theorem aw_store3 (h : Txs w0 w T M R B D [0, 0, 0, 0] [(8, 2)]) : Calls Try.prog 27 #[.pointer (some ⟨T, 0, none⟩), .int .u64 3, .int .u64 9] w fun e w' => e = .returned (.tuple #[]) ∧ ∃ R', Txs w0 w' T M R' B D [0, 0, 0, 0] [(8, 2)] :=
  (txstore_any h.tx 3 9 (by decide) (by decide)).mono fun e w' ⟨h1, h2⟩ => by
    obtain ⟨R', h3, _⟩ := h.step h2
    exact ⟨h1, R', h3⟩
theorem aw_load1 (h : IsSeg w B D [0, 0, 0, 0]) : Calls Try.prog 30 #[.pointer (some ⟨B, 0, none⟩), .int .u64 8] w fun e w' => e = .returned (.tuple #[.int .u64 0, .int .i64 0]) ∧ w.grownBy w' none := load_any (.inr ⟨B, D, rfl, h⟩) 8 (by decide)
theorem aw_load2 (h : IsSeg w B D [0, 2, 0, 0]) : Calls Try.prog 30 #[.pointer (some ⟨B, 0, none⟩), .int .u64 8] w fun e w' => e = .returned (.tuple #[.int .u64 2, .int .i64 0]) ∧ w.grownBy w' none := load_any (.inr ⟨B, D, rfl, h⟩) 8 (by decide)
theorem aw_apply (h : Txs w0 w T M R B D [0, 0, 0, 0] [(8, 2)]) : Calls Try.prog 21 #[.pointer (some ⟨T, 0, none⟩)] w fun e w' => e = .returned (.tuple #[]) ∧ w.grownBy w' (some D) ∧ Txs w0 w' T M R B D [0, 2, 0, 0] [(8, 2)] :=
  (txapply_any h.tx).mono fun e w' ⟨h1, h2, h3⟩ => ⟨h1, h2, h.seg h2 h3⟩
theorem aw_load (h : Txs w0 w T M R B D [0, 2, 0, 0] [(8, 2)]) : Calls Try.prog 13 #[.pointer (some ⟨T, 0, none⟩), .int .u64 8] w fun e w' => e = .returned (.int .u64 2) ∧ w.grownBy w' none := txload_any h.tx 8 (by decide)
end
set_option maxHeartbeats 1000000 in
theorem awake3 (w : World) : Calls Try.prog 9 #[] w fun e w' => e = .returned (.bool true) ∧ w.grownBy w' none := by
  go_enter Try.func9, Try.ntmps9
  go_wp2_with (first | (go_at_call 29; ((with_reducible refine (aw_new _).mono ?_); rintro e w1 ⟨rfl, hg1, hs1⟩)) | (go_at_call 26; ((with_reducible refine (txnew_yes hs1).mono ?_); rintro e w2 ⟨rfl, hg2, ht2⟩; have X2 : Txs w w2 _ _ _ _ _ _ _ := ⟨ht2, grown_trans hg1 hg2, (by have := hg1.size; omega), hg1.size, (fun g hg => by cases hg), Nat.le_succ _, Nat.le_refl _⟩)) | (go_at_call 27; ((with_reducible refine (aw_store1 X2).mono ?_); rintro e w3 ⟨rfl, R3, X3⟩)) | (go_at_call 27; ((with_reducible refine (aw_store2 X3).mono ?_); rintro e w4 ⟨rfl, R4, X4⟩)) | (go_at_call 27; ((with_reducible refine (aw_store3 X4).mono ?_); rintro e w5 ⟨rfl, R5, X5⟩)) | (go_at_call 15; ((with_reducible refine (txputs_any X5.tx).mono ?_); rintro e w6 ⟨v6, rfl, hp6, hg6⟩; have X6 := X5.later hg6; obtain ⟨g6, c6, hv6⟩ := ownsRow_succ hp6; subst hv6; have hs6 := X6.tx.seg)) | (go_at_call 30; ((with_reducible refine (aw_load1 hs6).mono ?_); rintro e w7 ⟨rfl, hg7⟩; have X7 := X6.later hg7; have hp7 := hp6.later hg7)) | (go_at_call 21; ((with_reducible refine (aw_apply X7).mono ?_); rintro e w8 ⟨rfl, hg8, X8⟩; have hp8 := OwnP.past_seg X7.tx.seg hg8 hp7; have hs8 := X8.tx.seg)) | (go_at_call 30; ((with_reducible refine (aw_load2 hs8).mono ?_); rintro e w9 ⟨rfl, hg9⟩; have X9 := X8.later hg9; have hp9 := hp8.later hg9; have q0 : w9.cell? ⟨g6, 0, none⟩ = some (.int .u64 8) := World.ownsRow.cellAt hp9 0 (by decide); have q1 : w9.cell? ⟨g6, 1, none⟩ = some (.int .u64 2) := World.ownsRow.cellAt hp9 1 (by decide))) | (go_at_call 13; ((with_reducible refine (aw_load X9).mono ?_); rintro e w10 ⟨rfl, hg10⟩)))
  go_ret
  exact ⟨rfl, (X9.later hg10).since⟩
/-! ### words -/
/-- the first k words -/
def firstW (ws : List Nat) (k : Nat) : List Nat := (List.range k).map fun j => getW ws (8 * j)
theorem firstW_step (ws : List Nat) (k : Nat) : firstW ws (k + 1) = firstW ws k ++ [getW ws (8 * k)] := by
  unfold firstW
  rw [List.range_succ, List.map_append]
  rfl
theorem firstW_len (ws : List Nat) (k : Nat) : (firstW ws k).length = k := by simp [firstW]
theorem firstW_all (ws : List Nat) : firstW ws ws.length = ws := by
  apply List.ext_getElem?
  intro i
  rcases Nat.lt_or_ge i ws.length with h | h
  · have hs : stands ws (8 * i) := ⟨by omega, by omega⟩
    unfold firstW
    rw [List.getElem?_map, List.getElem?_range h, Option.map_some]
    unfold getW
    rw [if_pos hs, show 8 * i / 8 = i by omega, List.getD_eq_getElem?_getD, List.getElem?_eq_getElem h]
    rfl
  · rw [List.getElem?_eq_none (by rw [firstW_len]; exact h), List.getElem?_eq_none h]
set_option maxHeartbeats 1000000 in
theorem words_ten {w : World} {B D : Nat} {ws : List Nat} (h : IsSeg w B D ws) (hl : ws.length = 10) :
    Calls Try.prog 23 #[.pointer (some ⟨B, 0, none⟩)] w fun e w' => ∃ v, e = .returned v ∧ OwnW w' w.heap.size v ws ∧ w.grownBy w' none := by
  have hall := firstW_all ws
  rw [hl] at hall
  go_enter Try.func23, Try.ntmps23
  go_wp2
  go_loopw [3, 4] (fun v i wr => ∃ k off : Nat, k ≤ 10 ∧ Hid (off = 8 * k) ∧ i = .int .u64 off ∧ OwnW wr w.heap.size v (firstW ws k) ∧ w.grownBy wr none) (fun _ i _ => 80 - (intOf i).toNat)
  case atStart => exact ⟨0, 0, Nat.zero_le _, Lib.hid rfl, rfl, World.ownsRow_nil _ _ _ _, grown_refl _ _⟩
  case round =>
    obtain ⟨k, off, hk, HO, rfl, hown, hgr⟩ := hrel
    have hoff := HO.out
    by_cases hlt : off < 80
    · have hcl := load_any (.inr ⟨B, D, rfl, h.later hgr⟩) off (by omega)
      have hk10 : k < 10 := by omega
      have hlen := firstW_len ws k
      have HL := Lib.hid hlen
      have hstep := firstW_step ws k
      rw [← hoff] at hstep
      have HS := Lib.hid hstep
      have hb := hgr.size
      have hlt' : (off : Int) < 80 := by omega
      clear hoff hstep hlen hall
      go_wp2_with (first | (go_at_call 30; refine hcl.mono ?_; rintro e w1 ⟨rfl, hg1⟩; have hown1 : w1.ownsRow w.heap.size 23 1 _ _ _ := hown.later hg1; have hb1 := (grown_trans hgr hg1).size) | (at_builtin; go_must (refine wpList_append_u64 rfl _ _ rfl w.heap.size _ _ _ rfl hown1 _ rfl (by rw [HL.out]; omega) hb1 ?_); intro v' w3 hown3 hg4))
      go_roundw
      case rel =>
        refine ⟨k + 1, off + 8, by omega, Lib.hid (by have := HO.out; omega), by go_num, ?_, ?_⟩
        · rw [HS.out]
          unfold OwnW
          rw [List.length_append]
          simpa [cellsU] using hown3
        · exact grown_step (grown_trans (grown_trans hgr hg1) (World.grownBy_alloc _ _ none)) hg4 (fun i hi => .inl (hown1.lt i hi).1)
      case measure => simp [intOf]; omega
    · obtain rfl : k = 10 := by omega
      have hlt' : ¬ (off : Int) < 80 := by omega
      clear hoff
      rw [hall] at hown
      go_wp2
      go_ret
      exact ⟨_, rfl, hown, hgr⟩
end Go.Proofs.Ytinkfichgknifaa
