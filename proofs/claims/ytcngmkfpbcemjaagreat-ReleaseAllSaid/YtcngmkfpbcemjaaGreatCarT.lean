/-
  Texts of one layer, one behind the other: memory, contracts of the functions, and what follows of them.
  Conditions: as each theorem says.
-/
import Derived.Test.YtcngmkfpbcemjaaGreatCarS
import Derived.Deep.RegionHeld3
set_option linter.unusedVariables false
set_option linter.unusedSimpArgs false
namespace Go.Proofs.YtcngmkfpbcemjaaGreat
open Go.RowKit
set_option maxRecDepth 100000
section
variable {w0 w : World} {T M : Nat} {R : Option Nat} {B D : Nat} {ws : List Nat} {l : List (Nat × Nat)}
def StepC (w0 : World) (T M B D : Nat) (ws : List Nat) (fn : Nat) (args : Array Value) (res : Value) (G G' : List (Nat × Nat) → Prop) : Prop :=
  ∀ V R1 l1, Txs w0 V T M R1 B D ws l1 → G l1 → Calls Tryz.prog fn args V fun e w' => e = .returned res ∧ ∃ R' l', Txs w0 w' T M R' B D ws l' ∧ G' l' ∧ Keep V R1 w' R'
set_option maxHeartbeats 40000000 in
theorem take_walk {O P S N q sz n a owner rest : Nat} {G0 G1 G2 G3 G4 G5 Post : List (Nat × Nat) → Prop} (h : Txs w0 w T M R B D ws l) (h0 : G0 l)
    (hb : O < 10000 ∧ S < 10000 ∧ P + N ≤ S ∧ owner ≤ 8) (hq : O + P = q) (hr : S - P - N = rest) (hsz : (if rest < 48 then S - P else N) = sz)
    (hfit : Calls Tryz.prog 43 #[.pointer (some ⟨T, 0, none⟩), .int .u64 n, .int .u64 a] w fun e w' => e = .returned (.tuple #[.agg #[.int .u64 O, .int .u64 P, .int .u64 N], .int .i64 0]) ∧ w.grownBy w' none)
    (hsize : ∀ V, w.grownBy V none → Calls Tryz.prog 44 #[.pointer (some ⟨T, 0, none⟩), .int .u64 O] V fun e w' => e = .returned (.int .u64 S) ∧ V.grownBy w' none)
    (hdel : StepC w0 T M B D ws 45 #[.pointer (some ⟨T, 0, none⟩), .int .u64 O] (.bool true) G0 G1)
    (hpad : P ≠ 0 → StepC w0 T M B D ws 46 #[.pointer (some ⟨T, 0, none⟩), .int .u64 O, .int .u64 P] (.tuple #[]) G1 G2) (hnopad : P = 0 → ∀ l, G1 l → G2 l)
    (hrest : ¬ rest < 48 → StepC w0 T M B D ws 46 #[.pointer (some ⟨T, 0, none⟩), .int .u64 (q + N : Nat), .int .u64 rest] (.tuple #[]) G2 G3) (hnorest : rest < 48 → ∀ l, G2 l → G3 l)
    (hwr : StepC w0 T M B D ws 36 #[.pointer (some ⟨T, 0, none⟩), .int .u64 q, .agg #[.int .u64 sz, .bool true, .int .i64 owner]] (.int .i64 0) G3 G4)
    (hfl : StepC w0 T M B D ws 47 #[.pointer (some ⟨T, 0, none⟩), .int .u64 q, .int .u64 n] (.tuple #[]) G4 G5)
    (hlk : owner ≠ 0 → StepC w0 T M B D ws 48 #[.pointer (some ⟨T, 0, none⟩), .int .i64 (owner - 1 : Nat), .int .u64 q] (.tuple #[]) G5 Post) (hnolk : owner = 0 → ∀ l, G5 l → Post l) :
    Calls Tryz.prog 16 #[.pointer (some ⟨T, 0, none⟩), .int .i64 owner, .int .u64 n, .int .u64 a] w fun e w' => e = .returned (.tuple #[.int .u64 (q + 32 : Nat), .int .i64 0]) ∧ ∃ R' l', Txs w0 w' T M R' B D ws l' ∧ Post l' ∧ Keep w R w' R' := by
  unfold StepC at hdel hpad hrest hwr hfl hlk
  obtain ⟨b1, b2, b3, b4⟩ := hb
  have eq1 : IntKind.u64.wrap ((O : Int) + (P : Int)) = (q : Nat) := by rw [IntKind.wrap_u64]; omega
  have eSP : IntKind.u64.wrap ((S : Int) - (P : Int)) = ((S - P : Nat) : Int) := by rw [IntKind.wrap_u64]; omega
  have eR : IntKind.u64.wrap (((S - P : Nat) : Int) - (N : Int)) = (rest : Nat) := by rw [IntKind.wrap_u64]; omega
  have eN : IntKind.u64.wrap ((q : Int) + (N : Int)) = ((q + N : Nat) : Int) := by rw [IntKind.wrap_u64]; omega
  have e32 : IntKind.u64.wrap ((q : Int) + 32) = ((q + 32 : Nat) : Int) := by rw [IntKind.wrap_u64]; omega
  obtain ⟨SP, hSP⟩ : ∃ SP, S - P = SP := ⟨_, rfl⟩
  obtain ⟨qN, hqN⟩ : ∃ qN, q + N = qN := ⟨_, rfl⟩
  obtain ⟨q32, hq32⟩ : ∃ q32, q + 32 = q32 := ⟨_, rfl⟩
  obtain ⟨o1, ho1⟩ : ∃ o1, owner - 1 = o1 := ⟨_, rfl⟩
  rw [hSP] at eSP eR hsz
  rw [hqN] at eN hrest
  rw [hq32] at e32
  rw [ho1] at hlk
  simp only [hq32]
  have i1 : ¬ (owner : Int) < 0 := by omega
  have i2 : ¬ 8 < (owner : Int) := by omega
  have hpad1 : P ≠ 0 → (0 : Int) < (P : Int) := fun h => by omega
  have hpad0 : P = 0 → ¬ (0 : Int) < (P : Int) := fun h => by omega
  have hr1 : ¬ rest < 48 → (48 : Int) ≤ (rest : Int) := fun h => by omega
  have hr0 : rest < 48 → ¬ (48 : Int) ≤ (rest : Int) := fun h => by omega
  have ho0 : owner = 0 → ¬ (0 : Int) < (owner : Int) := fun h => by omega
  have hoy : owner ≠ 0 → (0 : Int) < (owner : Int) := fun h => by omega
  have eo : owner ≠ 0 → IntKind.i64.wrap ((owner : Int) - 1) = (o1 : Nat) := fun h => by rw [IntKind.wrap_i64]; omega
  clear hq hqN hq32 ho1 hSP b1 b2 b3 b4 hr
  have hdel' := fun (V : World) (hg : w.grownBy V none) => hdel V R l (h.later hg) h0
  have HX := Lib.hid h
  have HP := Lib.hid hnopad
  have HR := Lib.hid hnorest
  have HK := Lib.hid hnolk
  clear hdel h h0 hnopad hnorest hnolk
  by_cases hp : P = 0
  · have pI := hpad0 hp
    have HPZ := Lib.hid hp
    clear hp
    by_cases hr : rest < 48
    · have rI := hr0 hr
      rw [if_pos hr] at hsz
      subst hsz
      by_cases ho : owner = 0
      · have oI := ho0 ho
        have HOZ := Lib.hid ho
        clear ho
        go_enter Tryz.func16, Tryz.ntmps16
        go_wp2_with (first | (go_at_call 43; (with_reducible refine hfit.mono ?_); rintro e w1 ⟨rfl, hg1⟩))
        have ga := World.grownBy_alloc w1 (.cells #[.int .u64 O, .int .u64 P, .int .u64 N] 95) none
        have hbx := heap_alloc_new' w1 (.cells #[.int .u64 O, .int .u64 P, .int .u64 N] 95)
        have hg2 := grown_trans hg1 ga
        obtain ⟨V, hV⟩ : ∃ V, w1.alloc (.cells #[.int .u64 O, .int .u64 P, .int .u64 N] 95) = V := ⟨_, rfl⟩
        rw [hV] at hbx hg2 ⊢
        obtain ⟨pb, hpb⟩ : ∃ pb, w1.heap.size = pb := ⟨_, rfl⟩
        rw [hpb] at hbx ⊢
        clear hV hpb ga hfit hg1
        have hcell : ∀ {wq : World}, V.grownBy wq none → wq.cell? ⟨pb, 0, none⟩ = some (.int .u64 O) ∧ wq.cell? ⟨pb, 1, none⟩ = some (.int .u64 P) ∧ wq.cell? ⟨pb, 2, none⟩ = some (.int .u64 N) := fun {wq} hg => tag_cells ((hg.block _ (lt_of_block hbx) (by simp)).trans hbx)
        have HG : V.grownBy V.drew none := grown_drew (grown_refl _ _)
        obtain ⟨d0, d1, d2⟩ := hcell HG
        have HBX := Lib.hid hbx
        clear hbx
        go_region_held3 (fun w' => w'.cell? ⟨pb, 0, none⟩ = some (.int .u64 O) ∧ w'.cell? ⟨pb, 1, none⟩ = some (.int .u64 P) ∧ w'.cell? ⟨pb, 2, none⟩ = some (.int .u64 N)) (go_keep) (first | (go_at_call 44; (with_reducible refine (hsize _ (grown_trans hg2 HG)).mono ?_); rintro e w3 ⟨rfl, hg3⟩; replace HG := grown_trans HG hg3; obtain ⟨d0, d1, d2⟩ := hcell HG))
        go_wp2_with (first
            | (go_at_call 45; (with_reducible refine (hdel' _ (grown_trans hg2 HG)).mono ?_); rintro e w4 ⟨rfl, R1, l1, X1, g1, K1⟩; have bx1 := K1.far ((HG.block _ (lt_of_block HBX.out) (by simp)).trans HBX.out) (by decide) (by decide); obtain ⟨d0, d1, d2⟩ := tag_cells bx1; have HB1 := Lib.hid bx1; clear bx1; have g2 := HP.out HPZ.out _ g1; have g3 := HR.out hr _ g2)
            | (go_at_call 36; (with_reducible refine (hwr _ _ _ X1 g3).mono ?_); rintro e w7 ⟨rfl, R4, l4, X4, g4, K4⟩)
            | (go_at_call 47; (with_reducible refine (hfl _ _ _ X4 g4).mono ?_); rintro e w8 ⟨rfl, R5, l5, X5, g5, K5⟩))
        go_ret2
        exact ⟨rfl, R5, l5, X5, HK.out HOZ.out _ g5, (Keep.of_grown (grown_trans hg2 HG)).trans (K1.trans (K4.trans (K5)))⟩
      · have oI := hoy ho
        have eO := eo ho
        go_enter Tryz.func16, Tryz.ntmps16
        go_wp2_with (first | (go_at_call 43; (with_reducible refine hfit.mono ?_); rintro e w1 ⟨rfl, hg1⟩))
        have ga := World.grownBy_alloc w1 (.cells #[.int .u64 O, .int .u64 P, .int .u64 N] 95) none
        have hbx := heap_alloc_new' w1 (.cells #[.int .u64 O, .int .u64 P, .int .u64 N] 95)
        have hg2 := grown_trans hg1 ga
        obtain ⟨V, hV⟩ : ∃ V, w1.alloc (.cells #[.int .u64 O, .int .u64 P, .int .u64 N] 95) = V := ⟨_, rfl⟩
        rw [hV] at hbx hg2 ⊢
        obtain ⟨pb, hpb⟩ : ∃ pb, w1.heap.size = pb := ⟨_, rfl⟩
        rw [hpb] at hbx ⊢
        clear hV hpb ga hfit hg1
        have hcell : ∀ {wq : World}, V.grownBy wq none → wq.cell? ⟨pb, 0, none⟩ = some (.int .u64 O) ∧ wq.cell? ⟨pb, 1, none⟩ = some (.int .u64 P) ∧ wq.cell? ⟨pb, 2, none⟩ = some (.int .u64 N) := fun {wq} hg => tag_cells ((hg.block _ (lt_of_block hbx) (by simp)).trans hbx)
        have HG : V.grownBy V.drew none := grown_drew (grown_refl _ _)
        obtain ⟨d0, d1, d2⟩ := hcell HG
        have HBX := Lib.hid hbx
        clear hbx
        go_region_held3 (fun w' => w'.cell? ⟨pb, 0, none⟩ = some (.int .u64 O) ∧ w'.cell? ⟨pb, 1, none⟩ = some (.int .u64 P) ∧ w'.cell? ⟨pb, 2, none⟩ = some (.int .u64 N)) (go_keep) (first | (go_at_call 44; (with_reducible refine (hsize _ (grown_trans hg2 HG)).mono ?_); rintro e w3 ⟨rfl, hg3⟩; replace HG := grown_trans HG hg3; obtain ⟨d0, d1, d2⟩ := hcell HG))
        go_wp2_with (first
            | (go_at_call 45; (with_reducible refine (hdel' _ (grown_trans hg2 HG)).mono ?_); rintro e w4 ⟨rfl, R1, l1, X1, g1, K1⟩; have bx1 := K1.far ((HG.block _ (lt_of_block HBX.out) (by simp)).trans HBX.out) (by decide) (by decide); obtain ⟨d0, d1, d2⟩ := tag_cells bx1; have HB1 := Lib.hid bx1; clear bx1; have g2 := HP.out HPZ.out _ g1; have g3 := HR.out hr _ g2)
            | (go_at_call 36; (with_reducible refine (hwr _ _ _ X1 g3).mono ?_); rintro e w7 ⟨rfl, R4, l4, X4, g4, K4⟩)
            | (go_at_call 47; (with_reducible refine (hfl _ _ _ X4 g4).mono ?_); rintro e w8 ⟨rfl, R5, l5, X5, g5, K5⟩)
            | (go_at_call 48; (with_reducible refine (hlk ho _ _ _ X5 g5).mono ?_); rintro e w9 ⟨rfl, R6, l6, X6, g6, K6⟩))
        go_ret2
        exact ⟨rfl, R6, l6, X6, g6, (Keep.of_grown (grown_trans hg2 HG)).trans (K1.trans (K4.trans (K5.trans (K6))))⟩
    · have rI := hr1 hr
      rw [if_neg hr] at hsz
      subst hsz
      by_cases ho : owner = 0
      · have oI := ho0 ho
        have HOZ := Lib.hid ho
        clear ho
        go_enter Tryz.func16, Tryz.ntmps16
        go_wp2_with (first | (go_at_call 43; (with_reducible refine hfit.mono ?_); rintro e w1 ⟨rfl, hg1⟩))
        have ga := World.grownBy_alloc w1 (.cells #[.int .u64 O, .int .u64 P, .int .u64 N] 95) none
        have hbx := heap_alloc_new' w1 (.cells #[.int .u64 O, .int .u64 P, .int .u64 N] 95)
        have hg2 := grown_trans hg1 ga
        obtain ⟨V, hV⟩ : ∃ V, w1.alloc (.cells #[.int .u64 O, .int .u64 P, .int .u64 N] 95) = V := ⟨_, rfl⟩
        rw [hV] at hbx hg2 ⊢
        obtain ⟨pb, hpb⟩ : ∃ pb, w1.heap.size = pb := ⟨_, rfl⟩
        rw [hpb] at hbx ⊢
        clear hV hpb ga hfit hg1
        have hcell : ∀ {wq : World}, V.grownBy wq none → wq.cell? ⟨pb, 0, none⟩ = some (.int .u64 O) ∧ wq.cell? ⟨pb, 1, none⟩ = some (.int .u64 P) ∧ wq.cell? ⟨pb, 2, none⟩ = some (.int .u64 N) := fun {wq} hg => tag_cells ((hg.block _ (lt_of_block hbx) (by simp)).trans hbx)
        have HG : V.grownBy V.drew none := grown_drew (grown_refl _ _)
        obtain ⟨d0, d1, d2⟩ := hcell HG
        have HBX := Lib.hid hbx
        clear hbx
        go_region_held3 (fun w' => w'.cell? ⟨pb, 0, none⟩ = some (.int .u64 O) ∧ w'.cell? ⟨pb, 1, none⟩ = some (.int .u64 P) ∧ w'.cell? ⟨pb, 2, none⟩ = some (.int .u64 N)) (go_keep) (first | (go_at_call 44; (with_reducible refine (hsize _ (grown_trans hg2 HG)).mono ?_); rintro e w3 ⟨rfl, hg3⟩; replace HG := grown_trans HG hg3; obtain ⟨d0, d1, d2⟩ := hcell HG))
        go_wp2_with (first
            | (go_at_call 45; (with_reducible refine (hdel' _ (grown_trans hg2 HG)).mono ?_); rintro e w4 ⟨rfl, R1, l1, X1, g1, K1⟩; have bx1 := K1.far ((HG.block _ (lt_of_block HBX.out) (by simp)).trans HBX.out) (by decide) (by decide); obtain ⟨d0, d1, d2⟩ := tag_cells bx1; have HB1 := Lib.hid bx1; clear bx1; have g2 := HP.out HPZ.out _ g1)
            | (go_at_call 46; (with_reducible refine (hrest hr _ _ _ X1 g2).mono ?_); rintro e w6 ⟨rfl, R3, l3, X3, g3, K3⟩; have bx3 := K3.far HB1.out (by decide) (by decide); obtain ⟨d0, d1, d2⟩ := tag_cells bx3; clear bx3)
            | (go_at_call 36; (with_reducible refine (hwr _ _ _ X3 g3).mono ?_); rintro e w7 ⟨rfl, R4, l4, X4, g4, K4⟩)
            | (go_at_call 47; (with_reducible refine (hfl _ _ _ X4 g4).mono ?_); rintro e w8 ⟨rfl, R5, l5, X5, g5, K5⟩))
        go_ret2
        exact ⟨rfl, R5, l5, X5, HK.out HOZ.out _ g5, (Keep.of_grown (grown_trans hg2 HG)).trans (K1.trans (K3.trans (K4.trans (K5))))⟩
      · have oI := hoy ho
        have eO := eo ho
        go_enter Tryz.func16, Tryz.ntmps16
        go_wp2_with (first | (go_at_call 43; (with_reducible refine hfit.mono ?_); rintro e w1 ⟨rfl, hg1⟩))
        have ga := World.grownBy_alloc w1 (.cells #[.int .u64 O, .int .u64 P, .int .u64 N] 95) none
        have hbx := heap_alloc_new' w1 (.cells #[.int .u64 O, .int .u64 P, .int .u64 N] 95)
        have hg2 := grown_trans hg1 ga
        obtain ⟨V, hV⟩ : ∃ V, w1.alloc (.cells #[.int .u64 O, .int .u64 P, .int .u64 N] 95) = V := ⟨_, rfl⟩
        rw [hV] at hbx hg2 ⊢
        obtain ⟨pb, hpb⟩ : ∃ pb, w1.heap.size = pb := ⟨_, rfl⟩
        rw [hpb] at hbx ⊢
        clear hV hpb ga hfit hg1
        have hcell : ∀ {wq : World}, V.grownBy wq none → wq.cell? ⟨pb, 0, none⟩ = some (.int .u64 O) ∧ wq.cell? ⟨pb, 1, none⟩ = some (.int .u64 P) ∧ wq.cell? ⟨pb, 2, none⟩ = some (.int .u64 N) := fun {wq} hg => tag_cells ((hg.block _ (lt_of_block hbx) (by simp)).trans hbx)
        have HG : V.grownBy V.drew none := grown_drew (grown_refl _ _)
        obtain ⟨d0, d1, d2⟩ := hcell HG
        have HBX := Lib.hid hbx
        clear hbx
        go_region_held3 (fun w' => w'.cell? ⟨pb, 0, none⟩ = some (.int .u64 O) ∧ w'.cell? ⟨pb, 1, none⟩ = some (.int .u64 P) ∧ w'.cell? ⟨pb, 2, none⟩ = some (.int .u64 N)) (go_keep) (first | (go_at_call 44; (with_reducible refine (hsize _ (grown_trans hg2 HG)).mono ?_); rintro e w3 ⟨rfl, hg3⟩; replace HG := grown_trans HG hg3; obtain ⟨d0, d1, d2⟩ := hcell HG))
        go_wp2_with (first
            | (go_at_call 45; (with_reducible refine (hdel' _ (grown_trans hg2 HG)).mono ?_); rintro e w4 ⟨rfl, R1, l1, X1, g1, K1⟩; have bx1 := K1.far ((HG.block _ (lt_of_block HBX.out) (by simp)).trans HBX.out) (by decide) (by decide); obtain ⟨d0, d1, d2⟩ := tag_cells bx1; have HB1 := Lib.hid bx1; clear bx1; have g2 := HP.out HPZ.out _ g1)
            | (go_at_call 46; (with_reducible refine (hrest hr _ _ _ X1 g2).mono ?_); rintro e w6 ⟨rfl, R3, l3, X3, g3, K3⟩; have bx3 := K3.far HB1.out (by decide) (by decide); obtain ⟨d0, d1, d2⟩ := tag_cells bx3; clear bx3)
            | (go_at_call 36; (with_reducible refine (hwr _ _ _ X3 g3).mono ?_); rintro e w7 ⟨rfl, R4, l4, X4, g4, K4⟩)
            | (go_at_call 47; (with_reducible refine (hfl _ _ _ X4 g4).mono ?_); rintro e w8 ⟨rfl, R5, l5, X5, g5, K5⟩)
            | (go_at_call 48; (with_reducible refine (hlk ho _ _ _ X5 g5).mono ?_); rintro e w9 ⟨rfl, R6, l6, X6, g6, K6⟩))
        go_ret2
        exact ⟨rfl, R6, l6, X6, g6, (Keep.of_grown (grown_trans hg2 HG)).trans (K1.trans (K3.trans (K4.trans (K5.trans (K6)))))⟩
  · have pI := hpad1 hp
    have HPZ := Lib.hid hp
    by_cases hr : rest < 48
    · have rI := hr0 hr
      rw [if_pos hr] at hsz
      subst hsz
      by_cases ho : owner = 0
      · have oI := ho0 ho
        have HOZ := Lib.hid ho
        clear ho
        go_enter Tryz.func16, Tryz.ntmps16
        go_wp2_with (first | (go_at_call 43; (with_reducible refine hfit.mono ?_); rintro e w1 ⟨rfl, hg1⟩))
        have ga := World.grownBy_alloc w1 (.cells #[.int .u64 O, .int .u64 P, .int .u64 N] 95) none
        have hbx := heap_alloc_new' w1 (.cells #[.int .u64 O, .int .u64 P, .int .u64 N] 95)
        have hg2 := grown_trans hg1 ga
        obtain ⟨V, hV⟩ : ∃ V, w1.alloc (.cells #[.int .u64 O, .int .u64 P, .int .u64 N] 95) = V := ⟨_, rfl⟩
        rw [hV] at hbx hg2 ⊢
        obtain ⟨pb, hpb⟩ : ∃ pb, w1.heap.size = pb := ⟨_, rfl⟩
        rw [hpb] at hbx ⊢
        clear hV hpb ga hfit hg1
        have hcell : ∀ {wq : World}, V.grownBy wq none → wq.cell? ⟨pb, 0, none⟩ = some (.int .u64 O) ∧ wq.cell? ⟨pb, 1, none⟩ = some (.int .u64 P) ∧ wq.cell? ⟨pb, 2, none⟩ = some (.int .u64 N) := fun {wq} hg => tag_cells ((hg.block _ (lt_of_block hbx) (by simp)).trans hbx)
        have HG : V.grownBy V.drew none := grown_drew (grown_refl _ _)
        obtain ⟨d0, d1, d2⟩ := hcell HG
        have HBX := Lib.hid hbx
        clear hbx
        go_region_held3 (fun w' => w'.cell? ⟨pb, 0, none⟩ = some (.int .u64 O) ∧ w'.cell? ⟨pb, 1, none⟩ = some (.int .u64 P) ∧ w'.cell? ⟨pb, 2, none⟩ = some (.int .u64 N)) (go_keep) (first | (go_at_call 44; (with_reducible refine (hsize _ (grown_trans hg2 HG)).mono ?_); rintro e w3 ⟨rfl, hg3⟩; replace HG := grown_trans HG hg3; obtain ⟨d0, d1, d2⟩ := hcell HG))
        go_wp2_with (first
            | (go_at_call 45; (with_reducible refine (hdel' _ (grown_trans hg2 HG)).mono ?_); rintro e w4 ⟨rfl, R1, l1, X1, g1, K1⟩; have bx1 := K1.far ((HG.block _ (lt_of_block HBX.out) (by simp)).trans HBX.out) (by decide) (by decide); obtain ⟨d0, d1, d2⟩ := tag_cells bx1; have HB1 := Lib.hid bx1; clear bx1)
            | (go_at_call 46; (with_reducible refine (hpad hp _ _ _ X1 g1).mono ?_); rintro e w5 ⟨rfl, R2, l2, X2, g2, K2⟩; have bx2 := K2.far HB1.out (by decide) (by decide); obtain ⟨d0, d1, d2⟩ := tag_cells bx2; have HB2 := Lib.hid bx2; clear bx2; have g3 := HR.out hr _ g2)
            | (go_at_call 36; (with_reducible refine (hwr _ _ _ X2 g3).mono ?_); rintro e w7 ⟨rfl, R4, l4, X4, g4, K4⟩)
            | (go_at_call 47; (with_reducible refine (hfl _ _ _ X4 g4).mono ?_); rintro e w8 ⟨rfl, R5, l5, X5, g5, K5⟩))
        go_ret2
        exact ⟨rfl, R5, l5, X5, HK.out HOZ.out _ g5, (Keep.of_grown (grown_trans hg2 HG)).trans (K1.trans (K2.trans (K4.trans (K5))))⟩
      · have oI := hoy ho
        have eO := eo ho
        go_enter Tryz.func16, Tryz.ntmps16
        go_wp2_with (first | (go_at_call 43; (with_reducible refine hfit.mono ?_); rintro e w1 ⟨rfl, hg1⟩))
        have ga := World.grownBy_alloc w1 (.cells #[.int .u64 O, .int .u64 P, .int .u64 N] 95) none
        have hbx := heap_alloc_new' w1 (.cells #[.int .u64 O, .int .u64 P, .int .u64 N] 95)
        have hg2 := grown_trans hg1 ga
        obtain ⟨V, hV⟩ : ∃ V, w1.alloc (.cells #[.int .u64 O, .int .u64 P, .int .u64 N] 95) = V := ⟨_, rfl⟩
        rw [hV] at hbx hg2 ⊢
        obtain ⟨pb, hpb⟩ : ∃ pb, w1.heap.size = pb := ⟨_, rfl⟩
        rw [hpb] at hbx ⊢
        clear hV hpb ga hfit hg1
        have hcell : ∀ {wq : World}, V.grownBy wq none → wq.cell? ⟨pb, 0, none⟩ = some (.int .u64 O) ∧ wq.cell? ⟨pb, 1, none⟩ = some (.int .u64 P) ∧ wq.cell? ⟨pb, 2, none⟩ = some (.int .u64 N) := fun {wq} hg => tag_cells ((hg.block _ (lt_of_block hbx) (by simp)).trans hbx)
        have HG : V.grownBy V.drew none := grown_drew (grown_refl _ _)
        obtain ⟨d0, d1, d2⟩ := hcell HG
        have HBX := Lib.hid hbx
        clear hbx
        go_region_held3 (fun w' => w'.cell? ⟨pb, 0, none⟩ = some (.int .u64 O) ∧ w'.cell? ⟨pb, 1, none⟩ = some (.int .u64 P) ∧ w'.cell? ⟨pb, 2, none⟩ = some (.int .u64 N)) (go_keep) (first | (go_at_call 44; (with_reducible refine (hsize _ (grown_trans hg2 HG)).mono ?_); rintro e w3 ⟨rfl, hg3⟩; replace HG := grown_trans HG hg3; obtain ⟨d0, d1, d2⟩ := hcell HG))
        go_wp2_with (first
            | (go_at_call 45; (with_reducible refine (hdel' _ (grown_trans hg2 HG)).mono ?_); rintro e w4 ⟨rfl, R1, l1, X1, g1, K1⟩; have bx1 := K1.far ((HG.block _ (lt_of_block HBX.out) (by simp)).trans HBX.out) (by decide) (by decide); obtain ⟨d0, d1, d2⟩ := tag_cells bx1; have HB1 := Lib.hid bx1; clear bx1)
            | (go_at_call 46; (with_reducible refine (hpad hp _ _ _ X1 g1).mono ?_); rintro e w5 ⟨rfl, R2, l2, X2, g2, K2⟩; have bx2 := K2.far HB1.out (by decide) (by decide); obtain ⟨d0, d1, d2⟩ := tag_cells bx2; have HB2 := Lib.hid bx2; clear bx2; have g3 := HR.out hr _ g2)
            | (go_at_call 36; (with_reducible refine (hwr _ _ _ X2 g3).mono ?_); rintro e w7 ⟨rfl, R4, l4, X4, g4, K4⟩)
            | (go_at_call 47; (with_reducible refine (hfl _ _ _ X4 g4).mono ?_); rintro e w8 ⟨rfl, R5, l5, X5, g5, K5⟩)
            | (go_at_call 48; (with_reducible refine (hlk ho _ _ _ X5 g5).mono ?_); rintro e w9 ⟨rfl, R6, l6, X6, g6, K6⟩))
        go_ret2
        exact ⟨rfl, R6, l6, X6, g6, (Keep.of_grown (grown_trans hg2 HG)).trans (K1.trans (K2.trans (K4.trans (K5.trans (K6)))))⟩
    · have rI := hr1 hr
      rw [if_neg hr] at hsz
      subst hsz
      by_cases ho : owner = 0
      · have oI := ho0 ho
        have HOZ := Lib.hid ho
        clear ho
        go_enter Tryz.func16, Tryz.ntmps16
        go_wp2_with (first | (go_at_call 43; (with_reducible refine hfit.mono ?_); rintro e w1 ⟨rfl, hg1⟩))
        have ga := World.grownBy_alloc w1 (.cells #[.int .u64 O, .int .u64 P, .int .u64 N] 95) none
        have hbx := heap_alloc_new' w1 (.cells #[.int .u64 O, .int .u64 P, .int .u64 N] 95)
        have hg2 := grown_trans hg1 ga
        obtain ⟨V, hV⟩ : ∃ V, w1.alloc (.cells #[.int .u64 O, .int .u64 P, .int .u64 N] 95) = V := ⟨_, rfl⟩
        rw [hV] at hbx hg2 ⊢
        obtain ⟨pb, hpb⟩ : ∃ pb, w1.heap.size = pb := ⟨_, rfl⟩
        rw [hpb] at hbx ⊢
        clear hV hpb ga hfit hg1
        have hcell : ∀ {wq : World}, V.grownBy wq none → wq.cell? ⟨pb, 0, none⟩ = some (.int .u64 O) ∧ wq.cell? ⟨pb, 1, none⟩ = some (.int .u64 P) ∧ wq.cell? ⟨pb, 2, none⟩ = some (.int .u64 N) := fun {wq} hg => tag_cells ((hg.block _ (lt_of_block hbx) (by simp)).trans hbx)
        have HG : V.grownBy V.drew none := grown_drew (grown_refl _ _)
        obtain ⟨d0, d1, d2⟩ := hcell HG
        have HBX := Lib.hid hbx
        clear hbx
        go_region_held3 (fun w' => w'.cell? ⟨pb, 0, none⟩ = some (.int .u64 O) ∧ w'.cell? ⟨pb, 1, none⟩ = some (.int .u64 P) ∧ w'.cell? ⟨pb, 2, none⟩ = some (.int .u64 N)) (go_keep) (first | (go_at_call 44; (with_reducible refine (hsize _ (grown_trans hg2 HG)).mono ?_); rintro e w3 ⟨rfl, hg3⟩; replace HG := grown_trans HG hg3; obtain ⟨d0, d1, d2⟩ := hcell HG))
        go_wp2_with (first
            | (go_at_call 45; (with_reducible refine (hdel' _ (grown_trans hg2 HG)).mono ?_); rintro e w4 ⟨rfl, R1, l1, X1, g1, K1⟩; have bx1 := K1.far ((HG.block _ (lt_of_block HBX.out) (by simp)).trans HBX.out) (by decide) (by decide); obtain ⟨d0, d1, d2⟩ := tag_cells bx1; have HB1 := Lib.hid bx1; clear bx1)
            | (go_at_call 46; (with_reducible refine (hpad hp _ _ _ X1 g1).mono ?_); rintro e w5 ⟨rfl, R2, l2, X2, g2, K2⟩; have bx2 := K2.far HB1.out (by decide) (by decide); obtain ⟨d0, d1, d2⟩ := tag_cells bx2; have HB2 := Lib.hid bx2; clear bx2)
            | (go_at_call 46; (with_reducible refine (hrest hr _ _ _ X2 g2).mono ?_); rintro e w6 ⟨rfl, R3, l3, X3, g3, K3⟩; have bx3 := K3.far HB2.out (by decide) (by decide); obtain ⟨d0, d1, d2⟩ := tag_cells bx3; clear bx3)
            | (go_at_call 36; (with_reducible refine (hwr _ _ _ X3 g3).mono ?_); rintro e w7 ⟨rfl, R4, l4, X4, g4, K4⟩)
            | (go_at_call 47; (with_reducible refine (hfl _ _ _ X4 g4).mono ?_); rintro e w8 ⟨rfl, R5, l5, X5, g5, K5⟩))
        go_ret2
        exact ⟨rfl, R5, l5, X5, HK.out HOZ.out _ g5, (Keep.of_grown (grown_trans hg2 HG)).trans (K1.trans (K2.trans (K3.trans (K4.trans (K5)))))⟩
      · have oI := hoy ho
        have eO := eo ho
        go_enter Tryz.func16, Tryz.ntmps16
        go_wp2_with (first | (go_at_call 43; (with_reducible refine hfit.mono ?_); rintro e w1 ⟨rfl, hg1⟩))
        have ga := World.grownBy_alloc w1 (.cells #[.int .u64 O, .int .u64 P, .int .u64 N] 95) none
        have hbx := heap_alloc_new' w1 (.cells #[.int .u64 O, .int .u64 P, .int .u64 N] 95)
        have hg2 := grown_trans hg1 ga
        obtain ⟨V, hV⟩ : ∃ V, w1.alloc (.cells #[.int .u64 O, .int .u64 P, .int .u64 N] 95) = V := ⟨_, rfl⟩
        rw [hV] at hbx hg2 ⊢
        obtain ⟨pb, hpb⟩ : ∃ pb, w1.heap.size = pb := ⟨_, rfl⟩
        rw [hpb] at hbx ⊢
        clear hV hpb ga hfit hg1
        have hcell : ∀ {wq : World}, V.grownBy wq none → wq.cell? ⟨pb, 0, none⟩ = some (.int .u64 O) ∧ wq.cell? ⟨pb, 1, none⟩ = some (.int .u64 P) ∧ wq.cell? ⟨pb, 2, none⟩ = some (.int .u64 N) := fun {wq} hg => tag_cells ((hg.block _ (lt_of_block hbx) (by simp)).trans hbx)
        have HG : V.grownBy V.drew none := grown_drew (grown_refl _ _)
        obtain ⟨d0, d1, d2⟩ := hcell HG
        have HBX := Lib.hid hbx
        clear hbx
        go_region_held3 (fun w' => w'.cell? ⟨pb, 0, none⟩ = some (.int .u64 O) ∧ w'.cell? ⟨pb, 1, none⟩ = some (.int .u64 P) ∧ w'.cell? ⟨pb, 2, none⟩ = some (.int .u64 N)) (go_keep) (first | (go_at_call 44; (with_reducible refine (hsize _ (grown_trans hg2 HG)).mono ?_); rintro e w3 ⟨rfl, hg3⟩; replace HG := grown_trans HG hg3; obtain ⟨d0, d1, d2⟩ := hcell HG))
        go_wp2_with (first
            | (go_at_call 45; (with_reducible refine (hdel' _ (grown_trans hg2 HG)).mono ?_); rintro e w4 ⟨rfl, R1, l1, X1, g1, K1⟩; have bx1 := K1.far ((HG.block _ (lt_of_block HBX.out) (by simp)).trans HBX.out) (by decide) (by decide); obtain ⟨d0, d1, d2⟩ := tag_cells bx1; have HB1 := Lib.hid bx1; clear bx1)
            | (go_at_call 46; (with_reducible refine (hpad hp _ _ _ X1 g1).mono ?_); rintro e w5 ⟨rfl, R2, l2, X2, g2, K2⟩; have bx2 := K2.far HB1.out (by decide) (by decide); obtain ⟨d0, d1, d2⟩ := tag_cells bx2; have HB2 := Lib.hid bx2; clear bx2)
            | (go_at_call 46; (with_reducible refine (hrest hr _ _ _ X2 g2).mono ?_); rintro e w6 ⟨rfl, R3, l3, X3, g3, K3⟩; have bx3 := K3.far HB2.out (by decide) (by decide); obtain ⟨d0, d1, d2⟩ := tag_cells bx3; clear bx3)
            | (go_at_call 36; (with_reducible refine (hwr _ _ _ X3 g3).mono ?_); rintro e w7 ⟨rfl, R4, l4, X4, g4, K4⟩)
            | (go_at_call 47; (with_reducible refine (hfl _ _ _ X4 g4).mono ?_); rintro e w8 ⟨rfl, R5, l5, X5, g5, K5⟩)
            | (go_at_call 48; (with_reducible refine (hlk ho _ _ _ X5 g5).mono ?_); rintro e w9 ⟨rfl, R6, l6, X6, g6, K6⟩))
        go_ret2
        exact ⟨rfl, R6, l6, X6, g6, (Keep.of_grown (grown_trans hg2 HG)).trans (K1.trans (K2.trans (K3.trans (K4.trans (K5.trans (K6))))))⟩
end
end Go.Proofs.YtcngmkfpbcemjaaGreat
