/-
  What the statements of layer 7 ask first: a tree of one block, and of none (awake).
  No condition.
-/
import Derived.Test.YthhboidjibdahaaGreatTreeAv
namespace Go.Proofs.YthhboidjibdahaaGreat
open Go.RowKit
set_option linter.unusedVariables false
set_option linter.unusedSimpArgs false

theorem pieces_none (w : World) : PiecesAt w none 0 (fun _ => 0) (fun _ => 0) (fun _ => 0) := ⟨fun _ => ⟨by decide, by decide, by decide⟩, fun h => by omega⟩
theorem offs_first (f : Nat → Nat) : offs f 0 = 3776 := rfl
theorem laid_nil {l : List (Nat × Nat)} {N : Nat} (h : Laid7 l N) (hN : N ≤ 0 + 1) : freeN (txSee (fmt48 4800) l) N = [3776] ∧ tS (txSee (fmt48 4800) l 3776) = 1024 := by
  have h0 := h.frees.2
  have hN1 : N = 1 := by
    rcases Nat.lt_or_ge N 1 with h1 | h1
    · obtain rfl : N = 0 := by omega
      simp [freeN] at h0
    · omega
  subst hN1
  have he := h.ends
  obtain ⟨j, hj, hu⟩ := h.free
  obtain rfl : j = 0 := by omega
  rw [offs_first] at hu
  have hb := (h.walks.lt 0 (by omega)).2
  rw [offs_first] at hb
  refine ⟨?_, ?_⟩
  · unfold freeN freeN
    rw [offs_first, hu]
    rfl
  · have h48 : offs (txSee (fmt48 4800) l) 1 = 3776 + usz (txSee (fmt48 4800) l 3776) := rfl
    rw [he] at h48
    unfold tS
    rw [if_pos hb.1.1]
    omega
theorem words_one (w : World) (x : Nat) : WordsAt (w.alloc (.cells #[.int .u64 (x : Nat)] 33)) (some ⟨w.heap.size, 0, none⟩) [x] := ⟨fun _ => ⟨_, 0, rfl, by rw [World.size_alloc]; omega, fun i hi => by
  have h1 := heap_alloc_new' w (.cells #[.int .u64 (x : Nat)] 33)
  simp only [List.length_cons, List.length_nil] at hi
  obtain rfl : i = 0 := by omega
  unfold World.cell?
  simp only [Nat.zero_add]
  rw [h1]
  rfl⟩⟩
theorem gt_one {z : Nat → Nat} (hz : z 3776 = 1024) : gtL z 48 0 (srtK z [3776]) = [3776] := by
  have e1 : srtK z [3776] = [3776] := rfl
  rw [e1]
  unfold gtL
  simp [hz, ltK]
set_option maxHeartbeats 8000000 in
set_option maxRecDepth 100000 in
theorem awake7 (w : World) : Calls Tryz.prog 5 #[] w fun e w' => e = .returned (.bool true) ∧ w.grownBy w' none := by
  have hla := laid7_tells (c := 0) (pieces_none w) (Nat.le_refl _) (by decide)
  obtain ⟨ws, ews⟩ : ∃ ws, fmt48 4800 = ws := ⟨_, rfl⟩
  have hla' : Calls Tryz.prog 6 #[.slice none 0 0] w fun e w' => ∃ T R wa wn wc pa pn pc fa fc z, e = .returned (.tuple #[.pointer (some ⟨T, 0, none⟩), .agg #[.slice wa wn wc, .slice pa pn pc], .slice fa 1 fc]) ∧ TB w w' T R ws z [3776] ∧ z 3776 = 1024 := by
    refine hla.mono ?_
    rintro e w' ⟨l, N, T, R, wv, pv, fv, hL, hN, rfl, hB, hw, hpv, hf⟩
    obtain ⟨e1, e2⟩ := laid_nil hL hN
    rw [e1] at hB hf
    rw [ews] at hB e2
    obtain ⟨fa, fc, rfl⟩ := hf.1.slice
    obtain ⟨wa, wn, wc, rfl⟩ := wv_form hw.1
    obtain ⟨pa, pn, pc, rfl⟩ := pv_form hpv
    exact ⟨T, R, wa, wn, wc, pa, pn, pc, fa, fc, _, rfl, hB, e2⟩
  have hpl := fun (w1 : World) (T : Nat) (R : Option Nat) (z : Nat → Nat) (h : TB w w1 T R ws z [3776]) => tw_plant h
  have hin : ∀ (w1 : World) (T : Nat) (R : Option Nat) (z : Nat → Nat) (h : TW w w1 T R ws z [3776] []), Calls Tryz.prog 9 #[.pointer (some ⟨T, 0, none⟩), .int .u64 3776] w1 fun e w' => e = .returned (.tuple #[]) ∧ ∃ R', TW w w' T R' ws z [3776] [3776] := fun w1 T R z h => (tw_insert h (off := 3776) (by simp) (by simp)).mono fun e w' ⟨h1, R', h2, _⟩ => ⟨h1, R', h2⟩
  have haf : ∀ (w1 : World) (T : Nat) (R : Option Nat) (z : Nat → Nat) (hz : z 3776 = 1024) (h : TW w w1 T R ws z [3776] [3776]), Calls Tryz.prog 15 #[.pointer (some ⟨T, 0, none⟩), .int .u64 48, .int .u64 0] w1 fun e w' => e = .returned (.tuple #[.int .u64 3776, .bool true]) ∧ w1.grownBy w' none := fun w1 T R z hz h => by
    have := tw_after h 48 0
    rw [gt_one hz] at this
    exact this
  have hro : ∀ (w1 : World) (T : Nat) (R : Option Nat) (z : Nat → Nat) (h : TW w w1 T R ws z [3776] [3776]), Calls Tryz.prog 17 #[.pointer (some ⟨T, 0, none⟩)] w1 fun e w' => e = .returned (.int .u64 3776) ∧ w1.grownBy w' none := fun w1 T R z h => tw_root_one h
  have hrn := fun (w1 : World) (T : Nat) (R : Option Nat) (z : Nat → Nat) (h : TW w w1 T R ws z [3776] []) => tw_root_nil h
  have hck : ∀ (w1 : World) (T : Nat) (R : Option Nat) (z : Nat → Nat) (la : Option Addr) (c : Nat) (hm : WordsAt w1 la [3776]) (h : TW w w1 T R ws z [3776] [3776]), Calls Tryz.prog 10 #[.pointer (some ⟨T, 0, none⟩), .slice la 1 c] w1 fun e w' => e = .returned (.bool true) ∧ w1.grownBy w' none := fun w1 T R z la c hm h => tw_check h (List.Perm.refl _) hm (n := 1) rfl (by decide)
  have hcn := fun (w1 : World) (T : Nat) (R : Option Nat) (z : Nat → Nat) (h : TW w w1 T R ws z [3776] [3776]) => tw_check_nil h (by simp)
  have hal : ∀ (w1 : World) (T : Nat) (R : Option Nat) (z : Nat → Nat) (h : TW w w1 T R ws z [3776] [3776]), Calls Tryz.prog 12 #[.pointer (some ⟨T, 0, none⟩)] w1 fun e w' => ∃ a c, e = .returned (.slice a 1 c) ∧ w1.grownBy w' none := fun w1 T R z h => (tw_all h).mono fun e w' ⟨v, h1, h2, h3⟩ => by
    obtain ⟨a, c, rfl⟩ := h2.slice
    exact ⟨a, c, h1, h3⟩
  have hde : ∀ (w1 : World) (T : Nat) (R : Option Nat) (z : Nat → Nat) (h : TW w w1 T R ws z [3776] [3776]), Calls Tryz.prog 18 #[.pointer (some ⟨T, 0, none⟩), .int .u64 3776] w1 fun e w' => e = .returned (.bool true) ∧ ∃ R', TW w w' T R' ws z [3776] [] := fun w1 T R z h => (tw_delete h (off := 3776) (K := []) (by simp) (by simp) (by simp)).mono fun e w' ⟨h1, R', h2, _⟩ => ⟨h1, R', h2⟩
  clear hla ews
  go_enter Tryz.func5, Tryz.ntmps5
  go_wp2_with (first | (go_at_call 6; ((with_reducible refine hla'.mono ?_); rintro e w1 ⟨T, R, wa, wn, wc, pa, pn, pc, fa, fc, z, rfl, X0, hz⟩; have X1 := X0.later (World.grownBy_alloc w1 (.cells #[.slice wa wn wc, .slice pa pn pc] 29) none))) | (go_at_call 7; ((with_reducible refine (hpl _ _ _ _ X1).mono ?_); rintro e w2 ⟨rfl, R2, X2, _⟩)) | (go_at_call 9; ((with_reducible refine (hin _ _ _ _ X2).mono ?_); rintro e w3 ⟨rfl, R3, X3⟩)) | (go_at_call 15; ((with_reducible refine (haf _ _ _ _ hz X3).mono ?_); rintro e w4 ⟨rfl, hg4⟩; have X4 := X3.later hg4)) | (go_at_call 17; ((with_reducible refine (hrn _ _ _ _ X9).mono ?_); rintro e w10 ⟨rfl, hg10⟩; have X10 := X9.later hg10)) | (go_at_call 17; ((with_reducible refine (hro _ _ _ _ X4).mono ?_); rintro e w5 ⟨rfl, hg5⟩; have X5 := (X4.later hg5).later (World.grownBy_alloc w5 (.cells #[.int .u64 3776] 33) none); have HM : WordsAt (w5.alloc (.cells #[.int .u64 3776] 33)) (some ⟨w5.heap.size, 0, none⟩) [3776] := words_one w5 3776)) | (go_at_call 10; ((with_reducible refine (hcn _ _ _ _ X6).mono ?_); rintro e w7 ⟨rfl, hg7⟩; have X7 := X6.later hg7)) | (go_at_call 10; ((with_reducible refine (hck _ _ _ _ _ _ HM X5).mono ?_); rintro e w6 ⟨rfl, hg6⟩; have X6 := X5.later hg6)) | (go_at_call 12; ((with_reducible refine (hal _ _ _ _ X7).mono ?_); rintro e w8 ⟨la8, lc8, rfl, hg8⟩; have X8 := X7.later hg8)) | (go_at_call 18; ((with_reducible refine (hde _ _ _ _ X8).mono ?_); rintro e w9 ⟨rfl, R9, X9⟩)))
  go_ret
  exact ⟨rfl, X10.since⟩
end Go.Proofs.YthhboidjibdahaaGreat
