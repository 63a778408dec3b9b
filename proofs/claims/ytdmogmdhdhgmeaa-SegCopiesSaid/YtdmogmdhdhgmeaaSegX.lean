/-
  What all statements of layer 2 ask first (awake) is true, and turns nothing that was there.
  No condition.
-/
import Derived.Test.YtdmogmdhdhgmeaaSegW
namespace Go.Proofs.Ytdmogmdhdhgmeaa
open Go.RowKit
set_option linter.unusedVariables false
set_option linter.unusedSimpArgs false

theorem awake_new (w : World) : Calls Try.prog 20 #[.int .u64 16] w fun e w' => e = .returned (.pointer (some ⟨w.heap.size + 1, 0, none⟩)) ∧ w.grownBy w' none ∧ IsSeg w' (w.heap.size + 1) w.heap.size [0, 0] := new_yes 2 (by decide) (by decide) w
theorem awake_store {w : World} {B D : Nat} (h : IsSeg w B D [0, 0]) :
    Calls Try.prog 14 #[.pointer (some ⟨B, 0, none⟩), .int .u64 8, .int .u64 258] w fun e w' => e = .returned (.int .i64 0) ∧ w.grownBy w' (some D) ∧ IsSeg w' B D [0, 258] := store_any h 8 258 (by decide) (by decide)
theorem awake_bytes {w : World} {B D : Nat} (h : IsSeg w B D [0, 258]) :
    Calls Try.prog 11 #[.pointer (some ⟨B, 0, none⟩), .int .u64 7, .int .u64 3] w fun e w' => e = .returned (.tuple #[.slice (some ⟨w.heap.size, 0, none⟩) 3 3, .int .i64 0]) ∧ Told w (fun j => byteN [0, 258] (7 + j)) 3 w' := bytes_yes h 7 3 (by decide)
theorem awake_load {w : World} {B D : Nat} (h : IsSeg w B D [0, 258]) :
    Calls Try.prog 15 #[.pointer (some ⟨B, 0, none⟩), .int .u64 8] w fun e w' => e = .returned (.tuple #[.int .u64 258, .int .i64 0]) ∧ w.grownBy w' none := load_any (.inr ⟨B, D, rfl, h⟩) 8 (by decide)
theorem awake_size {w : World} {B D : Nat} (h : IsSeg w B D [0, 258]) :
    Calls Try.prog 19 #[.pointer (some ⟨B, 0, none⟩)] w fun e w' => e = .returned (.int .u64 16) ∧ w = w' := size_any (.inr ⟨B, D, rfl, h⟩)
theorem awake_str : strN (fun j => byteN [0, 258] (7 + j)) 3 = ⟨#[0, 2, 1]⟩ := by decide +kernel
set_option maxHeartbeats 400000 in
theorem awake_any (w : World) :
    Calls Try.prog 8 #[] w fun e w' => e = .returned (.bool true) ∧ w.grownBy w' none := by
  go_enter Try.func8, Try.ntmps8
  go_wp2_with (first | (go_at_call 20; ((with_reducible refine (awake_new _).mono ?_); rintro e w1 ⟨rfl, hg1, hs1⟩)) | (go_at_call 14; ((with_reducible refine (awake_store hs1).mono ?_); rintro e w2 ⟨rfl, hg2, hs2⟩)) | (go_at_call 11; ((with_reducible refine (awake_bytes hs2).mono ?_); rintro e w3 ⟨rfl, ht3⟩; have hs3 := hs2.later ht3.grown)) | (go_at_call 15; ((with_reducible refine (awake_load hs3).mono ?_); rintro e w4 ⟨rfl, hg4⟩; have hs4 := hs3.later hg4; have hstr := (ht3.bytes.later hg4).str; rw [awake_str] at hstr)) | (go_at_call 19; ((with_reducible refine (awake_size hs4).mono ?_); rintro e w5 ⟨rfl, rfl⟩)))
  go_ret
  exact ⟨rfl, grown_trans (grown_trans (grown_new (grown_trans (grown_any hg1 _) hg2) (Nat.le_refl _)) ht3.grown) hg4⟩
end Go.Proofs.Ytdmogmdhdhgmeaa
