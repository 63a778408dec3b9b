/-
  Package audit: Same of two views of one free block each.
  Conditions: the blocks stand in memory.
-/
import Derived.Test.YtmcnpenihoaajaaGreatAudO
namespace Go.Proofs.YtmcnpenihoaajaaGreat
open Go.RowKit
set_option linter.unusedVariables false
set_option linter.unusedSimpArgs false
set_option maxRecDepth 100000
section
variable {w : World} {g g' k k' s : Nat}
theorem equalE_none (a b : Option Addr) (c d : Nat) (w : World) : Calls Tryz.prog 43 #[.slice a 0 c, .slice b 0 d] w fun e w' => e = .returned (.bool true) ∧ w = w' := by
  go_enter Tryz.func43, Tryz.ntmps43
  go_wp2
  go_loopw [13] (fun i wr => i = .int .i64 0 ∧ w = wr) (fun _ _ => 0)
  case atStart => exact ⟨rfl, rfl⟩
  case round =>
    obtain ⟨rfl, rfl⟩ := hrel
    go_wp2
    go_ret
    exact ⟨rfl, rfl⟩
theorem equalI_none (a b : Option Addr) (c d : Nat) (w : World) : Calls Tryz.prog 44 #[.slice a 0 c, .slice b 0 d] w fun e w' => e = .returned (.bool true) ∧ w = w' := by
  go_enter Tryz.func44, Tryz.ntmps44
  go_wp2
  go_loopw [13] (fun i wr => i = .int .i64 0 ∧ w = wr) (fun _ _ => 0)
  case atStart => exact ⟨rfl, rfl⟩
  case round =>
    obtain ⟨rfl, rfl⟩ := hrel
    go_wp2
    go_ret
    exact ⟨rfl, rfl⟩
def oneC (s : Nat) (a : Option Addr) (c : Nat) : Array Value := #[.int .u64 3776, .int .u64 s, .bool false, .int .i64 0, .int .u64 0, .slice a 0 c]
set_option maxHeartbeats 2000000 in
theorem sameblock_one (s : Nat) (a b : Option Addr) (c d : Nat) (w : World) : Calls Tryz.prog 42 #[.agg (oneC s a c), .agg (oneC s b d)] w fun e w' => e = .returned (.bool true) ∧ w.grownBy w' none := by
  have hg0 := World.grownBy_alloc w (.cells (oneC s a c) 90) none
  have hb0 := heap_alloc_new' w (.cells (oneC s a c) 90)
  have hg1 := World.grownBy_alloc (w.alloc (.cells (oneC s a c) 90)) (.cells (oneC s b d) 90) none
  have hb1 := heap_alloc_new' (w.alloc (.cells (oneC s a c) 90)) (.cells (oneC s b d) 90)
  have hb0' := (hg1.block _ (lt_of_block hb0) (by simp)).trans hb0
  rw [World.size_alloc] at hb1
  unfold oneC at *
  obtain ⟨c0, c1, c2, c3, c4, c5⟩ := six_cells hb0'
  obtain ⟨d0, d1, d2, d3, d4, d5⟩ := six_cells hb1
  have he := fun V => equal_none a b c d V
  have e1 : ((s : Int) == (s : Int)) = true := by simp
  go_enter Tryz.func42, Tryz.ntmps42
  go_wp2_with (first
    | (go_at_call 77; go_must ((with_reducible refine (he _).mono ?_); rintro e w1 ⟨rfl, rfl⟩)))
  go_ret
  exact ⟨rfl, grown_trans hg0 hg1⟩
set_option maxHeartbeats 4000000 in
theorem equalB_one (h : One w g s) (h' : One w g' s) : Calls Tryz.prog 41 #[.slice (some ⟨g, 0, none⟩) 1 k, .slice (some ⟨g', 0, none⟩) 1 k', .func (.func 42) #[] #[]] w fun e w' => e = .returned (.bool true) ∧ w.grownBy w' none := by
  obtain ⟨a, c, c0, c1, c2, c3, c4, c5, c6⟩ := h
  have hd := fun (V : World) (hg : w.grownBy V none) => h'.later hg
  obtain ⟨b, d, d0, d1, d2, d3, d4, d5, d6⟩ := h'
  have hga := World.grownBy_alloc w (.cells (oneC s a c) 90) none
  have hba := heap_alloc_new' w (.cells (oneC s a c) 90)
  have hgb := World.grownBy_alloc (w.alloc (.cells (oneC s a c) 90)) (.cells (oneC s b d) 90) none
  have hbb := heap_alloc_new' (w.alloc (.cells (oneC s a c) 90)) (.cells (oneC s b d) 90)
  have hba' := (hgb.block _ (lt_of_block hba) (by simp)).trans hba
  rw [World.size_alloc] at hbb
  have hcl : ∀ i v, w.cell? ⟨g', i, none⟩ = some v → (w.alloc (.cells (oneC s a c) 90)).cell? ⟨g', i, none⟩ = some v := fun i v hv => Lib.cell?_alloc_some _ hv
  have f0 := hcl 0 _ d0
  have f1 := hcl 1 _ d1
  have f2 := hcl 2 _ d2
  have f3 := hcl 3 _ d3
  have f4 := hcl 4 _ d4
  have f5 := hcl 5 _ d5
  have hs := fun V => sameblock_one s a b c d V
  unfold oneC at *
  obtain ⟨p0, p1, p2, p3, p4, p5⟩ := six_cells hba'
  obtain ⟨q0, q1, q2, q3, q4, q5⟩ := six_cells hbb
  have HS := Lib.hid hs
  clear hs hd hcl
  go_enter Tryz.func41, Tryz.ntmps41
  go_wp2
  go_loopw [17] (fun i wr => (i = .int .i64 0 ∧ wr = w) ∨ (i = .int .i64 1 ∧ w.grownBy wr none)) (fun i _ => 1 - (intOf i).toNat)
  case atStart => exact .inl ⟨rfl, rfl⟩
  case round =>
    rcases hrel with ⟨rfl, hWr⟩ | ⟨rfl, hg⟩
    · obtain rfl := hWr.symm
      go_wp2_with (first
        | (go_at_call 42; go_must ((with_reducible refine (HS.out _).mono ?_); rintro e w3 ⟨rfl, hg3⟩)))
      go_roundw
      case rel => exact .inr ⟨by go_num, grown_trans hga (grown_trans hgb hg3)⟩
      case measure => simp [intOf]
    · go_wp2
      go_ret
      exact ⟨rfl, hg⟩
set_option maxHeartbeats 4000000 in
theorem same_one {x y : Nat} (h : One w g s) (h' : One w g' s) (e1 e2 l1 l2 : Option Addr) (c1 c2 d1 d2 : Nat) : Calls Tryz.prog 16 #[.agg #[.int .u64 (x : Nat), .slice (some ⟨g, 0, none⟩) 1 k, .slice e1 0 c1, .slice l1 0 d1], .agg #[.int .u64 (y : Nat), .slice (some ⟨g', 0, none⟩) 1 k', .slice e2 0 c2, .slice l2 0 d2]] w fun e w' => e = .returned (.bool (decide (x = y))) ∧ w.grownBy w' none := by
  have hga := World.grownBy_alloc w (.cells #[.int .u64 (x : Nat), .slice (some ⟨g, 0, none⟩) 1 k, .slice e1 0 c1, .slice l1 0 d1] 41) none
  have hba := heap_alloc_new' w (.cells #[.int .u64 (x : Nat), .slice (some ⟨g, 0, none⟩) 1 k, .slice e1 0 c1, .slice l1 0 d1] 41)
  obtain ⟨W1, hW1⟩ : ∃ W1, w.alloc (.cells #[.int .u64 (x : Nat), .slice (some ⟨g, 0, none⟩) 1 k, .slice e1 0 c1, .slice l1 0 d1] 41) = W1 := ⟨_, rfl⟩
  rw [hW1] at hga hba
  have hgb := World.grownBy_alloc W1 (.cells #[.int .u64 (y : Nat), .slice (some ⟨g', 0, none⟩) 1 k', .slice e2 0 c2, .slice l2 0 d2] 41) none
  have hbb := heap_alloc_new' W1 (.cells #[.int .u64 (y : Nat), .slice (some ⟨g', 0, none⟩) 1 k', .slice e2 0 c2, .slice l2 0 d2] 41)
  obtain ⟨W2, hW2⟩ : ∃ W2, W1.alloc (.cells #[.int .u64 (y : Nat), .slice (some ⟨g', 0, none⟩) 1 k', .slice e2 0 c2, .slice l2 0 d2] 41) = W2 := ⟨_, rfl⟩
  rw [hW2] at hgb hbb
  have hba' := (hgb.block _ (lt_of_block hba) (by simp)).trans hba
  have hG := grown_trans hga hgb
  have hcell : ∀ {V : World}, W2.grownBy V none → _ := fun {V} hg => vw_cells ((hg.block _ (lt_of_block hba') (by simp)).trans hba')
  have hcelb : ∀ {V : World}, W2.grownBy V none → _ := fun {V} hg => vw_cells ((hg.block _ (lt_of_block hbb) (by simp)).trans hbb)
  obtain ⟨p0, p1, p2, p3, _⟩ := hcell (grown_refl _ _)
  obtain ⟨q0, q1, q2, q3, _⟩ := hcelb (grown_refl _ _)
  have hE := equalB_one (k := k) (k' := k') (h.later hG) (h'.later hG)
  have hF := fun V => equalE_none e1 e2 c1 c2 V
  have hI := fun V => equalI_none l1 l2 d1 d2 V
  have HE := Lib.hid hE
  have HF := Lib.hid hF
  have HI := Lib.hid hI
  clear hE hF hI h h'
  by_cases hxy : x = y
  · have ex : ((x : Int) == (y : Int)) = true := by rw [hxy]; simp
    have ed : decide (x = y) = true := by rw [decide_eq_true_iff]; exact hxy
    rw [ed]
    have HXY := Lib.hid hxy
    clear hxy ed
    go_enter Tryz.func16, Tryz.ntmps16
    go_wp2_with (first
      | (go_at_call 41; go_must ((with_reducible refine HE.out.mono ?_); rintro e w3 ⟨rfl, hg3⟩; obtain ⟨r0, r1, r2, r3, _⟩ := hcell hg3; obtain ⟨t0, t1, t2, t3, _⟩ := hcelb hg3))
      | (go_at_call 43; go_must ((with_reducible refine (HF.out _).mono ?_); rintro e w4 ⟨rfl, rfl⟩))
      | (go_at_call 44; go_must ((with_reducible refine (HI.out _).mono ?_); rintro e w5 ⟨rfl, rfl⟩)))
    go_ret
    exact ⟨rfl, grown_trans hG hg3⟩
  · have ex : ((x : Int) == (y : Int)) = false := by rw [beq_eq_false_iff_ne]; omega
    have ed : decide (x = y) = false := by rw [decide_eq_false_iff_not]; exact hxy
    rw [ed]
    have HXY := Lib.hid hxy
    clear hxy ed
    go_enter Tryz.func16, Tryz.ntmps16
    go_wp2
    go_ret
    exact ⟨rfl, hG⟩
end
end Go.Proofs.YtmcnpenihoaajaaGreat
