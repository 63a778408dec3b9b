/-
  Package seg: Diff's walk.
  Conditions: both segments are nobody's, or stand in memory.
-/
import Derived.Test.YtojkebnjohanaaaSegH
namespace Go.Proofs.Ytojkebnjohanaaa
open Go.RowKit
set_option linter.unusedVariables false
set_option linter.unusedSimpArgs false

/-- What Diff tells: the offsets of unlike words, in a row of its own, or nil; nothing that was there has turned. -/
def DiffPost (w : World) (a b : List Nat) (e : Ending) (w' : World) : Prop :=
  ∃ v, e = .returned v ∧ DiffRel w a b (max a.length b.length) v w'
set_option maxHeartbeats 1000000 in
theorem diff_any {w : World} {p q : Value} {a b : List Nat} (hp : SegAt w p a) (hq : SegAt w q b) :
    Calls Try.prog 18 #[p, q] w (DiffPost w a b) := by
  have ha := hp.most
  have hb := hq.most
  have R0 := DiffRel.first w a b
  go_enter Try.func18, Try.ntmps18
  go_wp2
  go_loopw [5, 6] (fun v i wr => ∃ k off : Nat, k ≤ max a.length b.length ∧ Hid (off = 8 * k) ∧ i = .int .u64 off ∧ DiffRel w a b k v wr) (fun _ i _ => 1048576 - (intOf i).toNat)
  case atStart => exact ⟨0, 0, Nat.zero_le _, Lib.hid rfl, rfl, R0⟩
  case round =>
    obtain ⟨k, off, hk, HO, rfl, R⟩ := hrel
    clear R0
    have hoff := HO.out
    have ho20 : off ≤ 1048576 := by omega
    have hlen := diffL_len a b k
    obtain ⟨A8, hA8⟩ : ∃ n, 8 * a.length = n := ⟨_, rfl⟩
    obtain ⟨B8, hB8⟩ : ∃ n, 8 * b.length = n := ⟨_, rfl⟩
    have hsp := fun {w1 : World} (hg : _) => size_any (hp.later (w' := w1) hg)
    have hsq := fun {w1 : World} (hg : _) => size_any (hq.later (w' := w1) hg)
    rw [hA8] at hsp
    rw [hB8] at hsq
    have key : (k < max a.length b.length ∧ (A8 < B8 ∧ off < B8 ∨ ¬ A8 < B8 ∧ off < A8)) ∨ (k = max a.length b.length ∧ (A8 < B8 ∧ ¬ off < B8 ∨ ¬ A8 < B8 ∧ ¬ off < A8)) := by omega
    have hA9 : A8 ≤ 1048576 := by omega
    have hB9 : B8 ≤ 1048576 := by omega
    have HA := Lib.hid hA8
    have HB := Lib.hid hB8
    clear hA8 hB8 hoff
    rcases key with ⟨hlt, hab⟩ | ⟨hend, hab⟩
    · by_cases hun : unlikeP a b off
      · have hcase : ((((getW a off : Nat) : Int) != ((getW b off : Nat) : Int)) = true) ∨ ((((getW a off : Nat) : Int) != ((getW b off : Nat) : Int)) = false ∧ (((errW a off : Nat) : Int) != ((errW b off : Nat) : Int)) = true) := by
          rcases hun with h | h
          · left; rw [bne_iff_ne]; omega
          · by_cases h' : getW a off = getW b off
            · right; exact ⟨by rw [h']; simp, by rw [bne_iff_ne]; omega⟩
            · left; rw [bne_iff_ne]; omega
        have HU := Lib.hid hun
        clear hun
        rcases hab with ⟨h1, h2⟩ | ⟨h1, h2⟩ <;> rcases hcase with h3 | ⟨h3, h4⟩
        all_goals
          go_wp2_with (first | (go_at_call 33; ((with_reducible refine (hsp R.grown).mono ?_); rintro e w' ⟨rfl, rfl⟩)) | (go_at_call 33; ((with_reducible refine (hsq R.grown).mono ?_); rintro e w' ⟨rfl, rfl⟩)) | (go_at_call 38; ((with_reducible refine (load_any (hp.later R.grown) off (by omega)).mono ?_); rintro e w1 ⟨rfl, hg1⟩)) | (go_at_call 38; ((with_reducible refine (load_any (hq.later (grown_trans R.grown hg1)) off (by omega)).mono ?_); rintro e w2 ⟨rfl, hg2⟩; have hown := own_kept R.own (grown_trans hg1 hg2); have hg3 := grown_trans hg1 hg2; have hbs := (grown_trans R.grown hg3).size)) | (at_builtin; go_must (refine wpList_append_u64 rfl _ _ rfl w.heap.size _ _ _ rfl hown _ rfl (by omega) hbs ?_); intro v' w3 hown3 hg4))
          go_roundw
          case rel => exact ⟨k + 1, off + 8, by omega, Lib.hid (by have := HO.out; omega), by go_num, R.more hg3 _ hg4 (by rw [← HO.out]; exact HU.out) (by rw [← HO.out]; exact hown3)⟩
          case measure => simp [intOf]; omega
      · have h3 : (((getW a off : Nat) : Int) != ((getW b off : Nat) : Int)) = false := by
          rw [bne_eq_false_iff_eq]
          have : ¬ getW a off ≠ getW b off := fun h => hun (.inl h)
          omega
        have h4 : (((errW a off : Nat) : Int) != ((errW b off : Nat) : Int)) = false := by
          rw [bne_eq_false_iff_eq]
          have : ¬ errW a off ≠ errW b off := fun h => hun (.inr h)
          omega
        have HU := Lib.hid hun
        clear hun
        rcases hab with ⟨h1, h2⟩ | ⟨h1, h2⟩
        all_goals
          go_wp2_with (first | (go_at_call 33; ((with_reducible refine (hsp R.grown).mono ?_); rintro e w' ⟨rfl, rfl⟩)) | (go_at_call 33; ((with_reducible refine (hsq R.grown).mono ?_); rintro e w' ⟨rfl, rfl⟩)) | (go_at_call 38; ((with_reducible refine (load_any (hp.later R.grown) off (by omega)).mono ?_); rintro e w1 ⟨rfl, hg1⟩)) | (go_at_call 38; ((with_reducible refine (load_any (hq.later (grown_trans R.grown hg1)) off (by omega)).mono ?_); rintro e w2 ⟨rfl, hg2⟩)))
          go_roundw
          case rel => exact ⟨k + 1, off + 8, by omega, Lib.hid (by have := HO.out; omega), by go_num, R.same (grown_trans hg1 hg2) (by rw [← HO.out]; exact HU.out)⟩
          case measure => simp [intOf]; omega
    · obtain rfl := hend
      rcases hab with ⟨h1, h2⟩ | ⟨h1, h2⟩
      all_goals
        go_wp2_with (first | (go_at_call 33; ((with_reducible refine (hsp R.grown).mono ?_); rintro e w' ⟨rfl, rfl⟩)) | (go_at_call 33; ((with_reducible refine (hsq R.grown).mono ?_); rintro e w' ⟨rfl, rfl⟩)))
        go_ret
        exact ⟨_, rfl, R⟩
end Go.Proofs.Ytojkebnjohanaaa
