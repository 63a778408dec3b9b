/-
  Texts of one layer, one behind the other: memory, contracts of the functions, and what follows of them.
  Conditions: as each theorem says.
-/
import Derived.Test.YtcbdbflgfhbikaaGreatLCaj
import Derived.Deep.RegionHeld3
set_option linter.unusedVariables false
set_option linter.unusedSimpArgs false
namespace Go.Proofs.YtcbdbflgfhbikaaGreat
open Go.RowKit
set_option maxRecDepth 100000
section
variable {w0 w : World} {T M : Nat} {R : Option Nat} {B D : Nat} {ws : List Nat} {l : List (Nat × Nat)}
def StepC (w0 : World) (T M B D : Nat) (ws : List Nat) (fn : Nat) (args : Array Value) (res : Value) (G G' : List (Nat × Nat) → Prop) : Prop :=
  ∀ V R1 l1, Txs w0 V T M R1 B D ws l1 → G l1 → Calls Tryz.prog fn args V fun e w' => e = .returned res ∧ ∃ R' l', Txs w0 w' T M R' B D ws l' ∧ G' l' ∧ Keep V R1 w' R'
set_option maxHeartbeats 40000000 in
theorem take_walk {O P S N q sz n a owner rest : Nat} {G0 G1 G2 G3 G4 G5 Post : List (Nat × Nat) → Prop} (h : Txs w0 w T M R B D ws l) (h0 : G0 l)
    (hb : O < 10000 ∧ S < 10000 ∧ P + N ≤ S ∧ owner ≤ 8) (hq : O + P = q) (hr : S - P - N = rest) (hsz : (if rest < 48 then S - P else N) = sz)
    (hfit : Calls Tryz.prog 19 #[.pointer (some ⟨T, 0, none⟩), .int .u64 n, .int .u64 a] w fun e w' => e = .returned (.tuple #[.agg #[.int .u64 O, .int .u64 P, .int .u64 N], .int .i64 0]) ∧ w.grownBy w' none)
    (hsize : ∀ V, w.grownBy V none → Calls Tryz.prog 88 #[.pointer (some ⟨T, 0, none⟩), .int .u64 O] V fun e w' => e = .returned (.int .u64 S) ∧ V.grownBy w' none)
    (hdel : StepC w0 T M B D ws 53 #[.pointer (some ⟨T, 0, none⟩), .int .u64 O] (.bool true) G0 G1)
    (hpad : P ≠ 0 → StepC w0 T M B D ws 114 #[.pointer (some ⟨T, 0, none⟩), .int .u64 O, .int .u64 P] (.tuple #[]) G1 G2) (hnopad : P = 0 → ∀ l, G1 l → G2 l)
    (hrest : ¬ rest < 48 → StepC w0 T M B D ws 114 #[.pointer (some ⟨T, 0, none⟩), .int .u64 (q + N : Nat), .int .u64 rest] (.tuple #[]) G2 G3) (hnorest : rest < 48 → ∀ l, G2 l → G3 l)
    (hwr : StepC w0 T M B D ws 55 #[.pointer (some ⟨T, 0, none⟩), .int .u64 q, .agg #[.int .u64 sz, .bool true, .int .i64 owner]] (.int .i64 0) G3 G4)
    (hfl : StepC w0 T M B D ws 115 #[.pointer (some ⟨T, 0, none⟩), .int .u64 q, .int .u64 n] (.tuple #[]) G4 G5)
    (hlk : owner ≠ 0 → StepC w0 T M B D ws 116 #[.pointer (some ⟨T, 0, none⟩), .int .i64 (owner - 1 : Nat), .int .u64 q] (.tuple #[]) G5 Post) (hnolk : owner = 0 → ∀ l, G5 l → Post l) :
    Calls Tryz.prog 64 #[.pointer (some ⟨T, 0, none⟩), .int .i64 owner, .int .u64 n, .int .u64 a] w fun e w' => e = .returned (.tuple #[.int .u64 (q + 32 : Nat), .int .i64 0]) ∧ ∃ R' l', Txs w0 w' T M R' B D ws l' ∧ Post l' ∧ Keep w R w' R' := by
  unfold StepC at hdel hpad hrest hwr hfl hlk
  obtain ⟨b1, b2, b3, b4⟩ := hb
  have eq1 : IntKind.u64.wrap ((O : Int) + (P : Int)) = (q : Nat) := by rw [IntKind.wrap_u64]; omega
  have eSP : IntKind.u64.wrap ((S : Int) - (P : Int)) = ((S - P : Nat) : Int) := by rw [IntKind.wrap_u64]; omega
  have eR : IntKind.u64.wrap (((S - P : Nat) : Int) - (N : Int)) = (rest : Nat) := by rw [IntKind.wrap_u64]; omega
  have eN : IntKind.u64.wrap ((q : Int) + (N : Int)) = ((q + N : Nat) : Int) := by rw [IntKind.wrap_u64]; omega
  have e32 : IntKind.u64.wrap ((q : Int) + 32) = ((q + 32 : Nat) : Int) := by rw [IntKind.wrap_u64]; omega
  obtain ⟨SP, hSP⟩ : ∃ SP, S - P = SP := ⟨_, rfl⟩
  obtain ⟨qN, hqN⟩ : ∃ qN, q + N = qN := ⟨_, rfl⟩
  obtain ⟨q32, hq32⟩ : ∃ q32, q + 32 = q32 := ⟨_, rfl⟩
  obtain ⟨o1, ho1⟩ : ∃ o1, owner - 1 = o1 := ⟨_, rfl⟩
  rw [hSP] at eSP eR hsz
  rw [hqN] at eN hrest
  rw [hq32] at e32
  rw [ho1] at hlk
  simp only [hq32]
  have i1 : ¬ (owner : Int) < 0 := by omega
  have i2 : ¬ 8 < (owner : Int) := by omega
  have hpad1 : P ≠ 0 → (0 : Int) < (P : Int) := fun h => by omega
  have hpad0 : P = 0 → ¬ (0 : Int) < (P : Int) := fun h => by omega
  have hr1 : ¬ rest < 48 → (48 : Int) ≤ (rest : Int) := fun h => by omega
  have hr0 : rest < 48 → ¬ (48 : Int) ≤ (rest : Int) := fun h => by omega
  have ho0 : owner = 0 → ¬ (0 : Int) < (owner : Int) := fun h => by omega
  have hoy : owner ≠ 0 → (0 : Int) < (owner : Int) := fun h => by omega
  have eo : owner ≠ 0 → IntKind.i64.wrap ((owner : Int) - 1) = (o1 : Nat) := fun h => by rw [IntKind.wrap_i64]; omega
  clear hq hqN hq32 ho1 hSP b1 b2 b3 b4 hr
  have hdel' := fun (V : World) (hg : w.grownBy V none) => hdel V R l (h.later hg) h0
  have HX := Lib.hid h
  have HP := Lib.hid hnopad
  have HR := Lib.hid hnorest
  have HK := Lib.hid hnolk
  clear hdel h h0 hnopad hnorest hnolk
  by_cases hp : P = 0
  · have pI := hpad0 hp
    have HPZ := Lib.hid hp
    clear hp
    by_cases hr : rest < 48
    · have rI := hr0 hr
      rw [if_pos hr] at hsz
      subst hsz
      by_cases ho : owner = 0
      · have oI := ho0 ho
        have HOZ := Lib.hid ho
        clear ho
        go_enter Tryz.func64, Tryz.ntmps64
        go_wp2_with (first | (go_at_call 19; (with_reducible refine hfit.mono ?_); rintro e w1 ⟨rfl, hg1⟩))
        have ga := World.grownBy_alloc w1 (.cells #[.int .u64 O, .int .u64 P, .int .u64 N] 55) none
        have hbx := heap_alloc_new' w1 (.cells #[.int .u64 O, .int .u64 P, .int .u64 N] 55)
        have hg2 := grown_trans hg1 ga
        obtain ⟨V, hV⟩ : ∃ V, w1.alloc (.cells #[.int .u64 O, .int .u64 P, .int .u64 N] 55) = V := ⟨_, rfl⟩
        rw [hV] at hbx hg2 ⊢
        obtain ⟨pb, hpb⟩ : ∃ pb, w1.heap.size = pb := ⟨_, rfl⟩
        rw [hpb] at hbx ⊢
        clear hV hpb ga hfit hg1
        have hcell : ∀ {wq : World}, V.grownBy wq none → wq.cell? ⟨pb, 0, none⟩ = some (.int .u64 O) ∧ wq.cell? ⟨pb, 1, none⟩ = some (.int .u64 P) ∧ wq.cell? ⟨pb, 2, none⟩ = some (.int .u64 N) := fun {wq} hg => tag_cells ((hg.block _ (lt_of_block hbx) (by simp)).trans hbx)
        have HG : V.grownBy V.drew none := grown_drew (grown_refl _ _)
        obtain ⟨d0, d1, d2⟩ := hcell HG
        have HBX := Lib.hid hbx
        clear hbx
        go_region_held3 (fun w' => w'.cell? ⟨pb, 0, none⟩ = some (.int .u64 O) ∧ w'.cell? ⟨pb, 1, none⟩ = some (.int .u64 P) ∧ w'.cell? ⟨pb, 2, none⟩ = some (.int .u64 N)) (go_keep) (first | (go_at_call 88; (with_reducible refine (hsize _ (grown_trans hg2 HG)).mono ?_); rintro e w3 ⟨rfl, hg3⟩; replace HG := grown_trans HG hg3; obtain ⟨d0, d1, d2⟩ := hcell HG))
        go_wp2_with (first
            | (go_at_call 53; (with_reducible refine (hdel' _ (grown_trans hg2 HG)).mono ?_); rintro e w4 ⟨rfl, R1, l1, X1, g1, K1⟩; have bx1 := K1.far ((HG.block _ (lt_of_block HBX.out) (by simp)).trans HBX.out) (by decide) (by decide); obtain ⟨d0, d1, d2⟩ := tag_cells bx1; have HB1 := Lib.hid bx1; clear bx1; have g2 := HP.out HPZ.out _ g1; have g3 := HR.out hr _ g2)
            | (go_at_call 55; (with_reducible refine (hwr _ _ _ X1 g3).mono ?_); rintro e w7 ⟨rfl, R4, l4, X4, g4, K4⟩)
            | (go_at_call 115; (with_reducible refine (hfl _ _ _ X4 g4).mono ?_); rintro e w8 ⟨rfl, R5, l5, X5, g5, K5⟩))
        go_ret2
        exact ⟨rfl, R5, l5, X5, HK.out HOZ.out _ g5, (Keep.of_grown (grown_trans hg2 HG)).trans (K1.trans (K4.trans (K5)))⟩
      · have oI := hoy ho
        have eO := eo ho
        go_enter Tryz.func64, Tryz.ntmps64
        go_wp2_with (first | (go_at_call 19; (with_reducible refine hfit.mono ?_); rintro e w1 ⟨rfl, hg1⟩))
        have ga := World.grownBy_alloc w1 (.cells #[.int .u64 O, .int .u64 P, .int .u64 N] 55) none
        have hbx := heap_alloc_new' w1 (.cells #[.int .u64 O, .int .u64 P, .int .u64 N] 55)
        have hg2 := grown_trans hg1 ga
        obtain ⟨V, hV⟩ : ∃ V, w1.alloc (.cells #[.int .u64 O, .int .u64 P, .int .u64 N] 55) = V := ⟨_, rfl⟩
        rw [hV] at hbx hg2 ⊢
        obtain ⟨pb, hpb⟩ : ∃ pb, w1.heap.size = pb := ⟨_, rfl⟩
        rw [hpb] at hbx ⊢
        clear hV hpb ga hfit hg1
        have hcell : ∀ {wq : World}, V.grownBy wq none → wq.cell? ⟨pb, 0, none⟩ = some (.int .u64 O) ∧ wq.cell? ⟨pb, 1, none⟩ = some (.int .u64 P) ∧ wq.cell? ⟨pb, 2, none⟩ = some (.int .u64 N) := fun {wq} hg => tag_cells ((hg.block _ (lt_of_block hbx) (by simp)).trans hbx)
        have HG : V.grownBy V.drew none := grown_drew (grown_refl _ _)
        obtain ⟨d0, d1, d2⟩ := hcell HG
        have HBX := Lib.hid hbx
        clear hbx
        go_region_held3 (fun w' => w'.cell? ⟨pb, 0, none⟩ = some (.int .u64 O) ∧ w'.cell? ⟨pb, 1, none⟩ = some (.int .u64 P) ∧ w'.cell? ⟨pb, 2, none⟩ = some (.int .u64 N)) (go_keep) (first | (go_at_call 88; (with_reducible refine (hsize _ (grown_trans hg2 HG)).mono ?_); rintro e w3 ⟨rfl, hg3⟩; replace HG := grown_trans HG hg3; obtain ⟨d0, d1, d2⟩ := hcell HG))
        go_wp2_with (first
            | (go_at_call 53; (with_reducible refine (hdel' _ (grown_trans hg2 HG)).mono ?_); rintro e w4 ⟨rfl, R1, l1, X1, g1, K1⟩; have bx1 := K1.far ((HG.block _ (lt_of_block HBX.out) (by simp)).trans HBX.out) (by decide) (by decide); obtain ⟨d0, d1, d2⟩ := tag_cells bx1; have HB1 := Lib.hid bx1; clear bx1; have g2 := HP.out HPZ.out _ g1; have g3 := HR.out hr _ g2)
            | (go_at_call 55; (with_reducible refine (hwr _ _ _ X1 g3).mono ?_); rintro e w7 ⟨rfl, R4, l4, X4, g4, K4⟩)
            | (go_at_call 115; (with_reducible refine (hfl _ _ _ X4 g4).mono ?_); rintro e w8 ⟨rfl, R5, l5, X5, g5, K5⟩)
            | (go_at_call 116; (with_reducible refine (hlk ho _ _ _ X5 g5).mono ?_); rintro e w9 ⟨rfl, R6, l6, X6, g6, K6⟩))
        go_ret2
        exact ⟨rfl, R6, l6, X6, g6, (Keep.of_grown (grown_trans hg2 HG)).trans (K1.trans (K4.trans (K5.trans (K6))))⟩
    · have rI := hr1 hr
      rw [if_neg hr] at hsz
      subst hsz
      by_cases ho : owner = 0
      · have oI := ho0 ho
        have HOZ := Lib.hid ho
        clear ho
        go_enter Tryz.func64, Tryz.ntmps64
        go_wp2_with (first | (go_at_call 19; (with_reducible refine hfit.mono ?_); rintro e w1 ⟨rfl, hg1⟩))
        have ga := World.grownBy_alloc w1 (.cells #[.int .u64 O, .int .u64 P, .int .u64 N] 55) none
        have hbx := heap_alloc_new' w1 (.cells #[.int .u64 O, .int .u64 P, .int .u64 N] 55)
        have hg2 := grown_trans hg1 ga
        obtain ⟨V, hV⟩ : ∃ V, w1.alloc (.cells #[.int .u64 O, .int .u64 P, .int .u64 N] 55) = V := ⟨_, rfl⟩
        rw [hV] at hbx hg2 ⊢
        obtain ⟨pb, hpb⟩ : ∃ pb, w1.heap.size = pb := ⟨_, rfl⟩
        rw [hpb] at hbx ⊢
        clear hV hpb ga hfit hg1
        have hcell : ∀ {wq : World}, V.grownBy wq none → wq.cell? ⟨pb, 0, none⟩ = some (.int .u64 O) ∧ wq.cell? ⟨pb, 1, none⟩ = some (.int .u64 P) ∧ wq.cell? ⟨pb, 2, none⟩ = some (.int .u64 N) := fun {wq} hg => tag_cells ((hg.block _ (lt_of_block hbx) (by simp)).trans hbx)
        have HG : V.grownBy V.drew none := grown_drew (grown_refl _ _)
        obtain ⟨d0, d1, d2⟩ := hcell HG
        have HBX := Lib.hid hbx
        clear hbx
        go_region_held3 (fun w' => w'.cell? ⟨pb, 0, none⟩ = some (.int .u64 O) ∧ w'.cell? ⟨pb, 1, none⟩ = some (.int .u64 P) ∧ w'.cell? ⟨pb, 2, none⟩ = some (.int .u64 N)) (go_keep) (first | (go_at_call 88; (with_reducible refine (hsize _ (grown_trans hg2 HG)).mono ?_); rintro e w3 ⟨rfl, hg3⟩; replace HG := grown_trans HG hg3; obtain ⟨d0, d1, d2⟩ := hcell HG))
        go_wp2_with (first
            | (go_at_call 53; (with_reducible refine (hdel' _ (grown_trans hg2 HG)).mono ?_); rintro e w4 ⟨rfl, R1, l1, X1, g1, K1⟩; have bx1 := K1.far ((HG.block _ (lt_of_block HBX.out) (by simp)).trans HBX.out) (by decide) (by decide); obtain ⟨d0, d1, d2⟩ := tag_cells bx1; have HB1 := Lib.hid bx1; clear bx1; have g2 := HP.out HPZ.out _ g1)
            | (go_at_call 114; (with_reducible refine (hrest hr _ _ _ X1 g2).mono ?_); rintro e w6 ⟨rfl, R3, l3, X3, g3, K3⟩; have bx3 := K3.far HB1.out (by decide) (by decide); obtain ⟨d0, d1, d2⟩ := tag_cells bx3; clear bx3)
            | (go_at_call 55; (with_reducible refine (hwr _ _ _ X3 g3).mono ?_); rintro e w7 ⟨rfl, R4, l4, X4, g4, K4⟩)
            | (go_at_call 115; (with_reducible refine (hfl _ _ _ X4 g4).mono ?_); rintro e w8 ⟨rfl, R5, l5, X5, g5, K5⟩))
        go_ret2
        exact ⟨rfl, R5, l5, X5, HK.out HOZ.out _ g5, (Keep.of_grown (grown_trans hg2 HG)).trans (K1.trans (K3.trans (K4.trans (K5))))⟩
      · have oI := hoy ho
        have eO := eo ho
        go_enter Tryz.func64, Tryz.ntmps64
        go_wp2_with (first | (go_at_call 19; (with_reducible refine hfit.mono ?_); rintro e w1 ⟨rfl, hg1⟩))
        have ga := World.grownBy_alloc w1 (.cells #[.int .u64 O, .int .u64 P, .int .u64 N] 55) none
        have hbx := heap_alloc_new' w1 (.cells #[.int .u64 O, .int .u64 P, .int .u64 N] 55)
        have hg2 := grown_trans hg1 ga
        obtain ⟨V, hV⟩ : ∃ V, w1.alloc (.cells #[.int .u64 O, .int .u64 P, .int .u64 N] 55) = V := ⟨_, rfl⟩
        rw [hV] at hbx hg2 ⊢
        obtain ⟨pb, hpb⟩ : ∃ pb, w1.heap.size = pb := ⟨_, rfl⟩
        rw [hpb] at hbx ⊢
        clear hV hpb ga hfit hg1
        have hcell : ∀ {wq : World}, V.grownBy wq none → wq.cell? ⟨pb, 0, none⟩ = some (.int .u64 O) ∧ wq.cell? ⟨pb, 1, none⟩ = some (.int .u64 P) ∧ wq.cell? ⟨pb, 2, none⟩ = some (.int .u64 N) := fun {wq} hg => tag_cells ((hg.block _ (lt_of_block hbx) (by simp)).trans hbx)
        have HG : V.grownBy V.drew none := grown_drew (grown_refl _ _)
        obtain ⟨d0, d1, d2⟩ := hcell HG
        have HBX := Lib.hid hbx
        clear hbx
        go_region_held3 (fun w' => w'.cell? ⟨pb, 0, none⟩ = some (.int .u64 O) ∧ w'.cell? ⟨pb, 1, none⟩ = some (.int .u64 P) ∧ w'.cell? ⟨pb, 2, none⟩ = some (.int .u64 N)) (go_keep) (first | (go_at_call 88; (with_reducible refine (hsize _ (grown_trans hg2 HG)).mono ?_); rintro e w3 ⟨rfl, hg3⟩; replace HG := grown_trans HG hg3; obtain ⟨d0, d1, d2⟩ := hcell HG))
        go_wp2_with (first
            | (go_at_call 53; (with_reducible refine (hdel' _ (grown_trans hg2 HG)).mono ?_); rintro e w4 ⟨rfl, R1, l1, X1, g1, K1⟩; have bx1 := K1.far ((HG.block _ (lt_of_block HBX.out) (by simp)).trans HBX.out) (by decide) (by decide); obtain ⟨d0, d1, d2⟩ := tag_cells bx1; have HB1 := Lib.hid bx1; clear bx1; have g2 := HP.out HPZ.out _ g1)
            | (go_at_call 114; (with_reducible refine (hrest hr _ _ _ X1 g2).mono ?_); rintro e w6 ⟨rfl, R3, l3, X3, g3, K3⟩; have bx3 := K3.far HB1.out (by decide) (by decide); obtain ⟨d0, d1, d2⟩ := tag_cells bx3; clear bx3)
            | (go_at_call 55; (with_reducible refine (hwr _ _ _ X3 g3).mono ?_); rintro e w7 ⟨rfl, R4, l4, X4, g4, K4⟩)
            | (go_at_call 115; (with_reducible refine (hfl _ _ _ X4 g4).mono ?_); rintro e w8 ⟨rfl, R5, l5, X5, g5, K5⟩)
            | (go_at_call 116; (with_reducible refine (hlk ho _ _ _ X5 g5).mono ?_); rintro e w9 ⟨rfl, R6, l6, X6, g6, K6⟩))
        go_ret2
        exact ⟨rfl, R6, l6, X6, g6, (Keep.of_grown (grown_trans hg2 HG)).trans (K1.trans (K3.trans (K4.trans (K5.trans (K6)))))⟩
  · have pI := hpad1 hp
    have HPZ := Lib.hid hp
    by_cases hr : rest < 48
    · have rI := hr0 hr
      rw [if_pos hr] at hsz
      subst hsz
      by_cases ho : owner = 0
      · have oI := ho0 ho
        have HOZ := Lib.hid ho
        clear ho
        go_enter Tryz.func64, Tryz.ntmps64
        go_wp2_with (first | (go_at_call 19; (with_reducible refine hfit.mono ?_); rintro e w1 ⟨rfl, hg1⟩))
        have ga := World.grownBy_alloc w1 (.cells #[.int .u64 O, .int .u64 P, .int .u64 N] 55) none
        have hbx := heap_alloc_new' w1 (.cells #[.int .u64 O, .int .u64 P, .int .u64 N] 55)
        have hg2 := grown_trans hg1 ga
        obtain ⟨V, hV⟩ : ∃ V, w1.alloc (.cells #[.int .u64 O, .int .u64 P, .int .u64 N] 55) = V := ⟨_, rfl⟩
        rw [hV] at hbx hg2 ⊢
        obtain ⟨pb, hpb⟩ : ∃ pb, w1.heap.size = pb := ⟨_, rfl⟩
        rw [hpb] at hbx ⊢
        clear hV hpb ga hfit hg1
        have hcell : ∀ {wq : World}, V.grownBy wq none → wq.cell? ⟨pb, 0, none⟩ = some (.int .u64 O) ∧ wq.cell? ⟨pb, 1, none⟩ = some (.int .u64 P) ∧ wq.cell? ⟨pb, 2, none⟩ = some (.int .u64 N) := fun {wq} hg => tag_cells ((hg.block _ (lt_of_block hbx) (by simp)).trans hbx)
        have HG : V.grownBy V.drew none := grown_drew (grown_refl _ _)
        obtain ⟨d0, d1, d2⟩ := hcell HG
        have HBX := Lib.hid hbx
        clear hbx
        go_region_held3 (fun w' => w'.cell? ⟨pb, 0, none⟩ = some (.int .u64 O) ∧ w'.cell? ⟨pb, 1, none⟩ = some (.int .u64 P) ∧ w'.cell? ⟨pb, 2, none⟩ = some (.int .u64 N)) (go_keep) (first | (go_at_call 88; (with_reducible refine (hsize _ (grown_trans hg2 HG)).mono ?_); rintro e w3 ⟨rfl, hg3⟩; replace HG := grown_trans HG hg3; obtain ⟨d0, d1, d2⟩ := hcell HG))
        go_wp2_with (first
            | (go_at_call 53; (with_reducible refine (hdel' _ (grown_trans hg2 HG)).mono ?_); rintro e w4 ⟨rfl, R1, l1, X1, g1, K1⟩; have bx1 := K1.far ((HG.block _ (lt_of_block HBX.out) (by simp)).trans HBX.out) (by decide) (by decide); obtain ⟨d0, d1, d2⟩ := tag_cells bx1; have HB1 := Lib.hid bx1; clear bx1)
            | (go_at_call 114; (with_reducible refine (hpad hp _ _ _ X1 g1).mono ?_); rintro e w5 ⟨rfl, R2, l2, X2, g2, K2⟩; have bx2 := K2.far HB1.out (by decide) (by decide); obtain ⟨d0, d1, d2⟩ := tag_cells bx2; have HB2 := Lib.hid bx2; clear bx2; have g3 := HR.out hr _ g2)
            | (go_at_call 55; (with_reducible refine (hwr _ _ _ X2 g3).mono ?_); rintro e w7 ⟨rfl, R4, l4, X4, g4, K4⟩)
            | (go_at_call 115; (with_reducible refine (hfl _ _ _ X4 g4).mono ?_); rintro e w8 ⟨rfl, R5, l5, X5, g5, K5⟩))
        go_ret2
        exact ⟨rfl, R5, l5, X5, HK.out HOZ.out _ g5, (Keep.of_grown (grown_trans hg2 HG)).trans (K1.trans (K2.trans (K4.trans (K5))))⟩
      · have oI := hoy ho
        have eO := eo ho
        go_enter Tryz.func64, Tryz.ntmps64
        go_wp2_with (first | (go_at_call 19; (with_reducible refine hfit.mono ?_); rintro e w1 ⟨rfl, hg1⟩))
        have ga := World.grownBy_alloc w1 (.cells #[.int .u64 O, .int .u64 P, .int .u64 N] 55) none
        have hbx := heap_alloc_new' w1 (.cells #[.int .u64 O, .int .u64 P, .int .u64 N] 55)
        have hg2 := grown_trans hg1 ga
        obtain ⟨V, hV⟩ : ∃ V, w1.alloc (.cells #[.int .u64 O, .int .u64 P, .int .u64 N] 55) = V := ⟨_, rfl⟩
        rw [hV] at hbx hg2 ⊢
        obtain ⟨pb, hpb⟩ : ∃ pb, w1.heap.size = pb := ⟨_, rfl⟩
        rw [hpb] at hbx ⊢
        clear hV hpb ga hfit hg1
        have hcell : ∀ {wq : World}, V.grownBy wq none → wq.cell? ⟨pb, 0, none⟩ = some (.int .u64 O) ∧ wq.cell? ⟨pb, 1, none⟩ = some (.int .u64 P) ∧ wq.cell? ⟨pb, 2, none⟩ = some (.int .u64 N) := fun {wq} hg => tag_cells ((hg.block _ (lt_of_block hbx) (by simp)).trans hbx)
        have HG : V.grownBy V.drew none := grown_drew (grown_refl _ _)
        obtain ⟨d0, d1, d2⟩ := hcell HG
        have HBX := Lib.hid hbx
        clear hbx
        go_region_held3 (fun w' => w'.cell? ⟨pb, 0, none⟩ = some (.int .u64 O) ∧ w'.cell? ⟨pb, 1, none⟩ = some (.int .u64 P) ∧ w'.cell? ⟨pb, 2, none⟩ = some (.int .u64 N)) (go_keep) (first | (go_at_call 88; (with_reducible refine (hsize _ (grown_trans hg2 HG)).mono ?_); rintro e w3 ⟨rfl, hg3⟩; replace HG := grown_trans HG hg3; obtain ⟨d0, d1, d2⟩ := hcell HG))
        go_wp2_with (first
            | (go_at_call 53; (with_reducible refine (hdel' _ (grown_trans hg2 HG)).mono ?_); rintro e w4 ⟨rfl, R1, l1, X1, g1, K1⟩; have bx1 := K1.far ((HG.block _ (lt_of_block HBX.out) (by simp)).trans HBX.out) (by decide) (by decide); obtain ⟨d0, d1, d2⟩ := tag_cells bx1; have HB1 := Lib.hid bx1; clear bx1)
            | (go_at_call 114; (with_reducible refine (hpad hp _ _ _ X1 g1).mono ?_); rintro e w5 ⟨rfl, R2, l2, X2, g2, K2⟩; have bx2 := K2.far HB1.out (by decide) (by decide); obtain ⟨d0, d1, d2⟩ := tag_cells bx2; have HB2 := Lib.hid bx2; clear bx2; have g3 := HR.out hr _ g2)
            | (go_at_call 55; (with_reducible refine (hwr _ _ _ X2 g3).mono ?_); rintro e w7 ⟨rfl, R4, l4, X4, g4, K4⟩)
            | (go_at_call 115; (with_reducible refine (hfl _ _ _ X4 g4).mono ?_); rintro e w8 ⟨rfl, R5, l5, X5, g5, K5⟩)
            | (go_at_call 116; (with_reducible refine (hlk ho _ _ _ X5 g5).mono ?_); rintro e w9 ⟨rfl, R6, l6, X6, g6, K6⟩))
        go_ret2
        exact ⟨rfl, R6, l6, X6, g6, (Keep.of_grown (grown_trans hg2 HG)).trans (K1.trans (K2.trans (K4.trans (K5.trans (K6)))))⟩
    · have rI := hr1 hr
      rw [if_neg hr] at hsz
      subst hsz
      by_cases ho : owner = 0
      · have oI := ho0 ho
        have HOZ := Lib.hid ho
        clear ho
        go_enter Tryz.func64, Tryz.ntmps64
        go_wp2_with (first | (go_at_call 19; (with_reducible refine hfit.mono ?_); rintro e w1 ⟨rfl, hg1⟩))
        have ga := World.grownBy_alloc w1 (.cells #[.int .u64 O, .int .u64 P, .int .u64 N] 55) none
        have hbx := heap_alloc_new' w1 (.cells #[.int .u64 O, .int .u64 P, .int .u64 N] 55)
        have hg2 := grown_trans hg1 ga
        obtain ⟨V, hV⟩ : ∃ V, w1.alloc (.cells #[.int .u64 O, .int .u64 P, .int .u64 N] 55) = V := ⟨_, rfl⟩
        rw [hV] at hbx hg2 ⊢
        obtain ⟨pb, hpb⟩ : ∃ pb, w1.heap.size = pb := ⟨_, rfl⟩
        rw [hpb] at hbx ⊢
        clear hV hpb ga hfit hg1
        have hcell : ∀ {wq : World}, V.grownBy wq none → wq.cell? ⟨pb, 0, none⟩ = some (.int .u64 O) ∧ wq.cell? ⟨pb, 1, none⟩ = some (.int .u64 P) ∧ wq.cell? ⟨pb, 2, none⟩ = some (.int .u64 N) := fun {wq} hg => tag_cells ((hg.block _ (lt_of_block hbx) (by simp)).trans hbx)
        have HG : V.grownBy V.drew none := grown_drew (grown_refl _ _)
        obtain ⟨d0, d1, d2⟩ := hcell HG
        have HBX := Lib.hid hbx
        clear hbx
        go_region_held3 (fun w' => w'.cell? ⟨pb, 0, none⟩ = some (.int .u64 O) ∧ w'.cell? ⟨pb, 1, none⟩ = some (.int .u64 P) ∧ w'.cell? ⟨pb, 2, none⟩ = some (.int .u64 N)) (go_keep) (first | (go_at_call 88; (with_reducible refine (hsize _ (grown_trans hg2 HG)).mono ?_); rintro e w3 ⟨rfl, hg3⟩; replace HG := grown_trans HG hg3; obtain ⟨d0, d1, d2⟩ := hcell HG))
        go_wp2_with (first
            | (go_at_call 53; (with_reducible refine (hdel' _ (grown_trans hg2 HG)).mono ?_); rintro e w4 ⟨rfl, R1, l1, X1, g1, K1⟩; have bx1 := K1.far ((HG.block _ (lt_of_block HBX.out) (by simp)).trans HBX.out) (by decide) (by decide); obtain ⟨d0, d1, d2⟩ := tag_cells bx1; have HB1 := Lib.hid bx1; clear bx1)
            | (go_at_call 114; (with_reducible refine (hpad hp _ _ _ X1 g1).mono ?_); rintro e w5 ⟨rfl, R2, l2, X2, g2, K2⟩; have bx2 := K2.far HB1.out (by decide) (by decide); obtain ⟨d0, d1, d2⟩ := tag_cells bx2; have HB2 := Lib.hid bx2; clear bx2)
            | (go_at_call 114; (with_reducible refine (hrest hr _ _ _ X2 g2).mono ?_); rintro e w6 ⟨rfl, R3, l3, X3, g3, K3⟩; have bx3 := K3.far HB2.out (by decide) (by decide); obtain ⟨d0, d1, d2⟩ := tag_cells bx3; clear bx3)
            | (go_at_call 55; (with_reducible refine (hwr _ _ _ X3 g3).mono ?_); rintro e w7 ⟨rfl, R4, l4, X4, g4, K4⟩)
            | (go_at_call 115; (with_reducible refine (hfl _ _ _ X4 g4).mono ?_); rintro e w8 ⟨rfl, R5, l5, X5, g5, K5⟩))
        go_ret2
        exact ⟨rfl, R5, l5, X5, HK.out HOZ.out _ g5, (Keep.of_grown (grown_trans hg2 HG)).trans (K1.trans (K2.trans (K3.trans (K4.trans (K5)))))⟩
      · have oI := hoy ho
        have eO := eo ho
        go_enter Tryz.func64, Tryz.ntmps64
        go_wp2_with (first | (go_at_call 19; (with_reducible refine hfit.mono ?_); rintro e w1 ⟨rfl, hg1⟩))
        have ga := World.grownBy_alloc w1 (.cells #[.int .u64 O, .int .u64 P, .int .u64 N] 55) none
        have hbx := heap_alloc_new' w1 (.cells #[.int .u64 O, .int .u64 P, .int .u64 N] 55)
        have hg2 := grown_trans hg1 ga
        obtain ⟨V, hV⟩ : ∃ V, w1.alloc (.cells #[.int .u64 O, .int .u64 P, .int .u64 N] 55) = V := ⟨_, rfl⟩
        rw [hV] at hbx hg2 ⊢
        obtain ⟨pb, hpb⟩ : ∃ pb, w1.heap.size = pb := ⟨_, rfl⟩
        rw [hpb] at hbx ⊢
        clear hV hpb ga hfit hg1
        have hcell : ∀ {wq : World}, V.grownBy wq none → wq.cell? ⟨pb, 0, none⟩ = some (.int .u64 O) ∧ wq.cell? ⟨pb, 1, none⟩ = some (.int .u64 P) ∧ wq.cell? ⟨pb, 2, none⟩ = some (.int .u64 N) := fun {wq} hg => tag_cells ((hg.block _ (lt_of_block hbx) (by simp)).trans hbx)
        have HG : V.grownBy V.drew none := grown_drew (grown_refl _ _)
        obtain ⟨d0, d1, d2⟩ := hcell HG
        have HBX := Lib.hid hbx
        clear hbx
        go_region_held3 (fun w' => w'.cell? ⟨pb, 0, none⟩ = some (.int .u64 O) ∧ w'.cell? ⟨pb, 1, none⟩ = some (.int .u64 P) ∧ w'.cell? ⟨pb, 2, none⟩ = some (.int .u64 N)) (go_keep) (first | (go_at_call 88; (with_reducible refine (hsize _ (grown_trans hg2 HG)).mono ?_); rintro e w3 ⟨rfl, hg3⟩; replace HG := grown_trans HG hg3; obtain ⟨d0, d1, d2⟩ := hcell HG))
        go_wp2_with (first
            | (go_at_call 53; (with_reducible refine (hdel' _ (grown_trans hg2 HG)).mono ?_); rintro e w4 ⟨rfl, R1, l1, X1, g1, K1⟩; have bx1 := K1.far ((HG.block _ (lt_of_block HBX.out) (by simp)).trans HBX.out) (by decide) (by decide); obtain ⟨d0, d1, d2⟩ := tag_cells bx1; have HB1 := Lib.hid bx1; clear bx1)
            | (go_at_call 114; (with_reducible refine (hpad hp _ _ _ X1 g1).mono ?_); rintro e w5 ⟨rfl, R2, l2, X2, g2, K2⟩; have bx2 := K2.far HB1.out (by decide) (by decide); obtain ⟨d0, d1, d2⟩ := tag_cells bx2; have HB2 := Lib.hid bx2; clear bx2)
            | (go_at_call 114; (with_reducible refine (hrest hr _ _ _ X2 g2).mono ?_); rintro e w6 ⟨rfl, R3, l3, X3, g3, K3⟩; have bx3 := K3.far HB2.out (by decide) (by decide); obtain ⟨d0, d1, d2⟩ := tag_cells bx3; clear bx3)
            | (go_at_call 55; (with_reducible refine (hwr _ _ _ X3 g3).mono ?_); rintro e w7 ⟨rfl, R4, l4, X4, g4, K4⟩)
            | (go_at_call 115; (with_reducible refine (hfl _ _ _ X4 g4).mono ?_); rintro e w8 ⟨rfl, R5, l5, X5, g5, K5⟩)
            | (go_at_call 116; (with_reducible refine (hlk ho _ _ _ X5 g5).mono ?_); rintro e w9 ⟨rfl, R6, l6, X6, g6, K6⟩))
        go_ret2
        exact ⟨rfl, R6, l6, X6, g6, (Keep.of_grown (grown_trans hg2 HG)).trans (K1.trans (K2.trans (K3.trans (K4.trans (K5.trans (K6))))))⟩
end
end Go.Proofs.YtcbdbflgfhbikaaGreat
namespace Go.Proofs.YtcbdbflgfhbikaaGreat
open Go.RowKit
set_option maxRecDepth 100000
section
variable {w0 w : World} {T M : Nat} {R : Option Nat} {B D : Nat} {ws : List Nat} {l : List (Nat × Nat)} {E : Nat} {bs : List Blk} {L : Nat → List Nat}
theorem need_bounds (n : Nat) : needOf n % 16 = 0 ∧ 48 ≤ needOf n ∧ n + 40 ≤ needOf n ∧ needOf n ≤ n + 55 := by
  unfold needOf
  split <;> omega
theorem fitM_is {n a i : Nat} (h : fitM bs n a = some i) : i < bs.length ∧ (bs.getD i default).u = false ∧ needOf n ≤ (bs.getD i default).s ∧ padN (bs.getD i default).off a + needOf n ≤ (bs.getD i default).s := by
  have := bestK_is (fitB (needOf n) a) bs bs.length
  unfold fitM at h
  rw [h] at this
  obtain ⟨h1, h2, _⟩ := this
  unfold fitB at h2
  simp only [Bool.and_eq_true, Bool.not_eq_true', decide_eq_true_eq] at h2
  exact ⟨h1, h2.1.1, h2.1.2, by omega⟩
theorem htake_ok (h : Txs w0 w T M R B D ws l) (hws : 8 * ws.length = 4800) (hS : SoundF (txSee ws l) E bs L) {n a i owner : Nat} (ha : alignP a) (hn : n ≤ 18446744073709551560) (how : owner ≤ 8) (hfi : fitM bs n a = some i) :
    Calls Tryz.prog 64 #[.pointer (some ⟨T, 0, none⟩), .int .i64 owner, .int .u64 n, .int .u64 a] w fun e w' => e = .returned (.tuple #[.int .u64 (gO bs i + padN (gO bs i) a + 32 : Nat), .int .i64 0]) ∧ ∃ R' l', Txs w0 w' T M R' B D ws l' ∧ (SoundF (txSee ws l') E (takeB bs i (padN (gO bs i) a) (needOf n) owner n) (takeL L owner (gO bs i + padN (gO bs i) a)) ∧ (∀ j, j < (n + 7) / 8 → txSee ws l' (gO bs i + padN (gO bs i) a + 32 + 8 * j) = 0) ∧ Held (txSee ws l) (txSee ws l') bs) ∧ Keep w R w' R' := by
  have hF := hS.heap
  obtain ⟨hi, hu, hnd, hpn⟩ := fitM_is hfi
  have hat := atB_of hS.told hi
  have hnb := need_bounds n
  have his := hat.is
  have hsz := his.size
  have hlo := his.lo
  have hhi := his.hi
  have hal := his.al
  have hEl := hS.low
  have hpa := padN_al ha hal
  have hpi := (padN_is ha hal).2
  have hfr := hat.frees hu hS.told
  have hfo := hat.free_out
  have hfit := hfit_any h.tx hws hF (n := n) ha hn
  show Calls Tryz.prog 64 #[.pointer (some ⟨T, 0, none⟩), .int .i64 owner, .int .u64 n, .int .u64 a] w fun e w' => e = .returned (.tuple #[.int .u64 ((bs.getD i default).off + padN (bs.getD i default).off a + 32 : Nat), .int .i64 0]) ∧ ∃ R' l', Txs w0 w' T M R' B D ws l' ∧ (SoundF (txSee ws l') E (takeB bs i (padN (bs.getD i default).off a) (needOf n) owner n) (takeL L owner ((bs.getD i default).off + padN (bs.getD i default).off a)) ∧ (∀ j, j < (n + 7) / 8 → txSee ws l' ((bs.getD i default).off + padN (bs.getD i default).off a + 32 + 8 * j) = 0) ∧ Held (txSee ws l) (txSee ws l') bs) ∧ Keep w R w' R'
  have htk := take_eq bs i (padN (bs.getD i default).off a) (needOf n) owner n
  rw [htk]
  obtain ⟨A, hA⟩ : ∃ A, bs.take i = A := ⟨_, rfl⟩
  obtain ⟨C, hC⟩ : ∃ C, bs.drop (i + 1) = C := ⟨_, rfl⟩
  obtain ⟨P, hP⟩ : ∃ P, padN (bs.getD i default).off a = P := ⟨_, rfl⟩
  obtain ⟨N, hN⟩ : ∃ N, needOf n = N := ⟨_, rfl⟩
  have hfit2 : Calls Tryz.prog 19 #[.pointer (some ⟨T, 0, none⟩), .int .u64 n, .int .u64 a] w fun e w' => e = .returned (.tuple #[.agg #[.int .u64 ((bs.getD i default).off : Nat), .int .u64 P, .int .u64 N], .int .i64 0]) ∧ w.grownBy w' none := hfit.mono (by
    rintro e w' ⟨h1 | h1, hg⟩
    · obtain ⟨i', e1, e2⟩ := h1
      have : i' = i := Option.some.inj (e1.symm.trans hfi)
      subst this
      rw [← hP, ← hN]
      exact ⟨e2, hg⟩
    · rw [hfi] at h1; cases h1.1)
  rw [hA, hC] at hat hfr hfo ⊢
  rw [hP, hN] at hpn ⊢
  rw [hP] at hpa hpi
  rw [hN] at hnb hnd
  obtain ⟨b, hb⟩ : ∃ b, bs.getD i default = b := ⟨_, rfl⟩
  have hbm : b ∈ bs := hb ▸ getB_mem hi
  simp only [hb] at hat hu hnd hpn his hsz hlo hhi hal hfr hfo hfit2 ⊢
  have hkey : tS (txSee ws l b.off) = b.s := his.key
  have hb' : b.u = false := hu
  have hin : b.off ∈ freesB bs := freesB_mem.2 ⟨b, hbm, hu, rfl⟩
  have c : CutB (txSee ws l) E b.off b.s P N n owner (freesB A ++ freesB C) := ⟨by omega, ⟨hpa.1, hpi⟩, ⟨hnb.1, hnb.2.1⟩, hnb.2.2.1, hpn, how, hfo, hS.top⟩
  have hcut : A ++ (cutB b P N owner n ++ C) = A ++ (cutB b P N owner n ++ C) := rfl
  have hG5 : ∀ l5, (Stay (txSee ws l) (txSee ws l5) b.off (b.off + b.s) (freesB A ++ freesB C) ∧ CutW b.off b.s P N (cutS b.s P N) n owner (txSee ws l5) ∧ Hung (txSee ws l5) (((freesB A ++ freesB C) ++ padL P b.off) ++ restL b.s P N b.off) ∧ ∀ j, j < (n + 7) / 8 → txSee ws l5 (b.off + P + 32 + 8 * j) = 0) → HeapF (txSee ws l5) E (A ++ (cutB b P N owner n ++ C)) ∧ Ledg (usedB (A ++ (cutB b P N owner n ++ C))) (txSee ws l5) L ∧ ∀ c, c < 8 → b.off + P ∉ L c := fun l5 g5 =>
    ⟨cut_heap hF hat hu ⟨hpa.1, hpi⟩ ⟨hnb.1, hnb.2.1⟩ hnb.2.2.1 hpn how g5.1 g5.2.1 g5.2.2.1, cut_ledg hS hat hu (by omega) g5.1⟩
  have hmg := cut_mg (P := P) (N := N) (n := n) (owner := owner) (by rw [← hat.eq]; exact hS.merged) hu
  have hsep : ∀ x ∈ bs, x.u = true → x.off + x.s ≤ b.off ∨ b.off + b.s ≤ x.off := fun x hx hxu => hS.told.sep hx hbm fun e => by
    have := hS.told.one hx hbm e
    rw [this, hu] at hxu
    cases hxu
  have hheld : ∀ l5, Stay (txSee ws l) (txSee ws l5) b.off (b.off + b.s) (freesB A ++ freesB C) → Held (txSee ws l) (txSee ws l5) bs := fun l5 k => Held.stay hS.told (Nat.le_refl _) k (fun _ h => h) (fun y hy => by
    rw [hat.eq, freesB_append, freesB_append]
    rcases List.mem_append.1 hy with h1 | h1
    · exact List.mem_append_left _ h1
    · exact List.mem_append_right _ (List.mem_append_right _ h1)) hsep
  refine take_walk (O := b.off) (P := P) (S := b.s) (N := N) (q := b.off + P) (sz := cutS b.s P N) (rest := b.s - P - N)
    (G0 := fun l1 => l1 = l)
    (G1 := fun l1 => Cut1 (txSee ws l) (txSee ws l1) b.off b.s (freesB A ++ freesB C) (freesB A ++ freesB C))
    (G2 := fun l1 => Cut1 (txSee ws l) (txSee ws l1) b.off b.s (freesB A ++ freesB C) ((freesB A ++ freesB C) ++ padL P b.off) ∧ PadW (txSee ws l1) b.off P)
    (G3 := fun l1 => Cut1 (txSee ws l) (txSee ws l1) b.off b.s (freesB A ++ freesB C) (((freesB A ++ freesB C) ++ padL P b.off) ++ restL b.s P N b.off) ∧ PadW (txSee ws l1) b.off P ∧ RestW (txSee ws l1) b.off b.s P N)
    (G4 := fun l1 => (Cut1 (txSee ws l) (txSee ws l1) b.off b.s (freesB A ++ freesB C) (((freesB A ++ freesB C) ++ padL P b.off) ++ restL b.s P N b.off) ∧ PadW (txSee ws l1) b.off P ∧ RestW (txSee ws l1) b.off b.s P N) ∧ UsedW (txSee ws l1) b.off P (cutS b.s P N) owner)
    (G5 := fun l5 => Stay (txSee ws l) (txSee ws l5) b.off (b.off + b.s) (freesB A ++ freesB C) ∧ CutW b.off b.s P N (cutS b.s P N) n owner (txSee ws l5) ∧ Hung (txSee ws l5) (((freesB A ++ freesB C) ++ padL P b.off) ++ restL b.s P N b.off) ∧ ∀ j, j < (n + 7) / 8 → txSee ws l5 (b.off + P + 32 + 8 * j) = 0)
    h rfl (by omega) rfl rfl rfl hfit2 ?size ?del ?pad ?nopad ?rest ?norest ?wr ?fl ?lk ?nolk
  case size =>
    intro V hg
    have := csize_any (h.tx.later hg) b.off (by omega)
    rw [hkey] at this
    exact this
  case del =>
    rintro V R1 l1 X rfl
    exact st_del X hws c hF.hung hin (by omega) hfr
  case pad => exact fun hp V R1 l1 X g => st_pad X hws c g hp
  case nopad => exact fun hp l1 g => st_nopad g hp
  case rest => exact fun hr V R1 l1 X g => st_rest X hws c g hr
  case norest => exact fun hr l1 g => st_norest g hr
  case wr => exact fun V R1 l1 X g => st_write X hws c g
  case fl => exact fun V R1 l1 X g => st_fill X hws c g
  case lk =>
    intro ho V R1 l1 X g
    obtain ⟨p1, p2, p3⟩ := hG5 l1 g
    have hU := p1.grid
    have hoU : b.off + P ∈ usedB (A ++ (cutB b P N owner n ++ C)) := by
      rw [usedB_append, usedB_append, cut_used]; simp
    refine (hlink (c := owner - 1) X hws p2 hU (by omega) hoU).mono ?_
    rintro e w' ⟨rfl, R', l', X', e1, K⟩
    have hls : LStay (txSee ws l1) (txSee ws l') (usedB (A ++ (cutB b P N owner n ++ C))) := fun x h1 h2 => by
      rw [e1]
      exact LStay.link p2 hU (by omega) hoU x h1 h2
    refine ⟨rfl, R', l', X', ⟨?_, fun j hj => ?_, ?_⟩, K⟩
    · refine (p1.relist hls).sound hmg ?_ (cut_whose hS hat (by omega) how p3)
      have := p2.link hU (c := owner - 1) (by omega) hoU p3 (g := txSee ws l') e1
      unfold takeL
      rw [if_neg ho]
      exact this
    · have hj' := g.2.2.2 j hj
      have hsl : ∀ c, c < 8 → slotH c < 3776 := fun c hc => slotH_lt hc
      have hx := e1 (b.off + P + 32 + 8 * j)
      rw [hx]
      have hk := LStay.link p2 hU (c := owner - 1) (by omega) hoU (b.off + P + 32 + 8 * j) (fun c hc => by have := hsl c hc; omega) (fun q hq => ?_)
      · rw [hk]; exact hj'
      · have hqq : q = b.off + P ∨ q + 48 ≤ b.off + P ∨ b.off + P + cutS b.s P N ≤ q := by
          have hm : (⟨b.off + P, cutS b.s P N, true, owner, n⟩ : Blk) ∈ A ++ (cutB b P N owner n ++ C) := by
            unfold cutB cutS; simp
          rcases p1.told.used_far hm hq with k | k
          · exact .inl k.1
          · exact .inr k
        have hcs := cutS_is c
        omega
    · refine (hheld l1 g.1).trans (Held.lists hS.told (Nat.le_refl _) hls (fun _ h => h) fun q hq x hx hxu => ?_)
      rw [usedB_append, usedB_append, cut_used] at hq
      have h2 := hsep x hx hxu
      have hin : ∀ q, q ∈ usedB A ∨ q ∈ usedB C → q = x.off ∨ q + 48 ≤ x.off ∨ x.off + x.s ≤ q := fun q hq => by
        rcases hS.told.used_far hx (show q ∈ usedB bs by
          rw [hat.eq, usedB_append, usedB_append]
          rcases hq with h1 | h1
          · exact List.mem_append_left _ h1
          · exact List.mem_append_right _ (List.mem_append_right _ h1)) with k | k
        · exact .inl k.1
        · exact .inr k
      rcases List.mem_append.1 hq with h1 | h1
      · exact hin q (.inl h1)
      · rcases List.mem_append.1 h1 with h3 | h3
        · have h4 := List.mem_singleton.1 h3
          omega
        · exact hin q (.inr h3)
  case nolk =>
    intro ho l1 g
    obtain ⟨p1, p2, p3⟩ := hG5 l1 g
    refine ⟨p1.sound hmg ?_ (cut_whose hS hat (by omega) how p3), g.2.2.2, hheld l1 g.1⟩
    unfold takeL
    rw [if_pos ho]
    exact p2
end
end Go.Proofs.YtcbdbflgfhbikaaGreat
