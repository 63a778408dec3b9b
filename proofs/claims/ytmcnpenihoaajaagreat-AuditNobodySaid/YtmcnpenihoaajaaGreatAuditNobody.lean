/-
  Nobody's segment isn't right, nobody's model has an empty view; a formatted segment is right, and its view is that of a model as it was made. The statement AuditNobody, for every two numbers; no condition.
-/
import Derived.Test.YtmcnpenihoaajaaGreatAudQ
import Derived.Test.YtmcnpenihoaajaaGreatRows
import Derived.ChangeAlike
import Derived.ChangeOld
import Derived.OpenShut
import Derived.SizedLaws
import Derived.Laws.Bits64
namespace Go.Proofs.YtmcnpenihoaajaaGreat.auditNobody
open Go.ChangeShapes Go.WideShapes Go.ChangeAt Go.RowKit
set_option linter.unusedVariables false
set_option linter.unusedSimpArgs false
set_option maxRecDepth 100000

theorem xor_eq (a b : Nat) : a = a ^^^ b ↔ b = 0 := by
  constructor
  · intro h
    have h2 : a ^^^ a = a ^^^ (a ^^^ b) := by rw [← h]
    rw [Nat.xor_self, ← Nat.xor_assoc, Nat.xor_self, Nat.zero_xor] at h2
    exact h2.symm
  · rintro rfl
    rw [Nat.xor_zero]
theorem sizes_fits (n : Nat) : SizesOk n 4800 ↔ fitsP n 4800 := by
  unfold SizesOk fitsP
  omega
section
variable {w : World}
set_option maxHeartbeats 8000000 in
theorem walk_yes (a b : Nat) (ha : a < 18446744073709551616) (hb : b < 18446744073709551616) (hf : fitsP a 4800) (w : World) :
    Calls Tryz.prog 4 #[.int .u64 a, .int .u64 b] w fun e w' => e = .returned (.bool true) ∧ w.grownBy w' none := by
  have hs := (sizes_fits a).2 hf
  have hln := fun V => look_nil V
  have hon := fun V => of_nil V
  have han := fun V => audit_nil V
  have hft : ∀ V, Calls Tryz.prog 15 #[.int .u64 (a : Nat), .int .u64 4800] V fun e w' => e = .returned (.bool (decide (fitsP a 4800))) ∧ V = w' := fun V => rfits_any a 4800 V
  have hd : decide (fitsP a 4800) = true := decide_eq_true hf
  rw [hd] at hft
  have hxo := bits_xor_u64_nat a b ha hb
  have hxe := xor_eq a b
  obtain ⟨x, hx⟩ : ∃ x, a ^^^ b = x := ⟨_, rfl⟩
  rw [hx] at hxo hxe
  have hq : ((b : Int) == 0) = decide (a = x) := by
    rw [Bool.eq_iff_iff, beq_iff_eq, decide_eq_true_iff, hxe]
    omega
  obtain ⟨z, hz⟩ : ∃ z, decide (a = x) = z := ⟨_, rfl⟩
  rw [hz] at hq
  have hzz : (z == z) = true := by cases z <;> rfl
  have HS := Lib.hid hs
  have HF := Lib.hid hf
  have HZ := Lib.hid hz
  clear hs hf hd hz hxe hx
  go_enter Tryz.func4, Tryz.ntmps4
  go_wp2_with (first
    | (go_at_call 5; go_must ((with_reducible refine (awake16_any _).mono ?_); rintro e w1 ⟨rfl, hg1⟩))
    | (go_at_call 12; (with_reducible refine (hln _).mono ?_); rintro e w2 ⟨rfl, hg2⟩; have hga := World.grownBy_alloc w2 (.cells #[.int .u64 0, .slice none 0 0, .slice none 0 0, .slice none 0 0] 41) none; have hba := heap_alloc_new' w2 (.cells #[.int .u64 0, .slice none 0 0, .slice none 0 0, .slice none 0 0] 41); have hG2 := grown_trans hg1 (grown_trans hg2 hga))
    | (go_at_call 13; (with_reducible refine (hon _).mono ?_); rintro e w3 ⟨rfl, hg3⟩; have hgb := World.grownBy_alloc w3 (.cells #[.int .u64 0, .slice none 0 0, .slice none 0 0, .slice none 0 0] 41) none; have hbb := heap_alloc_new' w3 (.cells #[.int .u64 0, .slice none 0 0, .slice none 0 0, .slice none 0 0] 41); have hba3 := ((grown_trans hg3 hgb).block _ (lt_of_block hba) (by simp)).trans hba; have hG3 := grown_trans hG2 (grown_trans hg3 hgb); have hnew := new48 (w3.alloc (.cells #[.int .u64 0, .slice none 0 0, .slice none 0 0, .slice none 0 0] 41)); simp only [World.size_alloc] at hnew)
    | (go_at_call 6; go_must ((with_reducible refine hnew.mono ?_); rintro e w4 ⟨rfl, hg4, hS4⟩; have hfm := format48 hS4 HF.out))
    | (go_at_call 7; go_must ((with_reducible refine hfm.mono ?_); rintro e w5 ⟨rfl, hg5, hS5⟩; have hG5 := grown_new (grown_trans (grown_any hg4 _) hg5) (by simp); have hmn : Calls Tryz.prog 14 #[.int .u64 (a : Nat), .int .u64 4800] w5 _ := mnew_ok (w := w5) HS.out))
    | (go_at_call 14; go_must ((with_reducible refine hmn.mono ?_); rintro e w6 ⟨rfl, hM6, hg6⟩; have HM := Lib.hid hM6; clear hM6; have hG6 := grown_trans hG5 hg6; have hL := look_fr HF.out (hS5.later hg6)))
    | (go_at_call 12; (with_reducible refine hL.mono ?_); rintro e w7 ⟨g, a1, c1, la, lc, rfl, hgw, hgk, hg7⟩; have hO7 := one_of hgk; have hgc := World.grownBy_alloc w7 (.cells #[.int .u64 (a : Nat), .slice (some ⟨g, 0, none⟩) 1 1, .slice none 0 0, .slice la 0 lc] 41) none; have hbc := heap_alloc_new' w7 (.cells #[.int .u64 (a : Nat), .slice (some ⟨g, 0, none⟩) 1 1, .slice none 0 0, .slice la 0 lc] 41); have hG7 := grown_trans hG6 (grown_trans hg7 hgc); have hof := of_fr HS.out (HM.out.later (grown_trans hg7 hgc)))
    | (go_at_call 15; go_must ((with_reducible refine (hft _).mono ?_); rintro e w8 ⟨rfl, rfl⟩))
    | (go_at_call 13; (with_reducible refine hof.mono ?_); rintro e w9 ⟨g2, k2, ea, ec, lb, ld, rfl, hgw2, hO9, hg9⟩; have hbd := heap_alloc_new' w9 (.cells #[.int .u64 (a : Nat), .slice (some ⟨g2, 0, none⟩) 1 k2, .slice ea 0 ec, .slice lb 0 ld] 41); have hgd := World.grownBy_alloc w9 (.cells #[.int .u64 (a : Nat), .slice (some ⟨g2, 0, none⟩) 1 k2, .slice ea 0 ec, .slice lb 0 ld] 41) none; obtain ⟨d0, d1, d2, d3, z0, z1, z2, z3⟩ := vw_cells hbd))
  have hgx := World.grownBy_alloc w9 (.cells #[.int .u64 (x : Nat), .slice (some ⟨g2, 0, none⟩) 1 k2, .slice ea 0 ec, .slice lb 0 ld] 41) none
  have hbx := heap_alloc_new' w9 (.cells #[.int .u64 (x : Nat), .slice (some ⟨g2, 0, none⟩) 1 k2, .slice ea 0 ec, .slice lb 0 ld] 41)
  obtain ⟨W9, hW9⟩ : ∃ W9, w9.alloc (.cells #[.int .u64 (x : Nat), .slice (some ⟨g2, 0, none⟩) 1 k2, .slice ea 0 ec, .slice lb 0 ld] 41) = W9 := ⟨_, rfl⟩
  rw [hW9] at hgx hbx ⊢
  have g37 := grown_trans hG5 (grown_trans hg6 (grown_trans hg7 (grown_trans hgc (grown_trans hg9 hgx))))
  have g79 := grown_trans hg9 hgx
  have kA := (g37.block _ (lt_of_block hba3) (by simp)).trans hba3
  have kB := (g37.block _ (lt_of_block hbb) (by simp)).trans hbb
  have kC := (g79.block _ (lt_of_block hbc) (by simp)).trans hbc
  obtain ⟨bA, eA⟩ : ∃ q, w2.heap.size = q := ⟨_, rfl⟩
  obtain ⟨bB, eB⟩ : ∃ q, w3.heap.size = q := ⟨_, rfl⟩
  obtain ⟨bC, eC⟩ : ∃ q, w7.heap.size = q := ⟨_, rfl⟩
  obtain ⟨bD, eD⟩ : ∃ q, w9.heap.size = q := ⟨_, rfl⟩
  rw [eA] at kA
  rw [eB] at kB
  rw [eC] at kC
  rw [eD] at hbx
  simp only [eA, eB, eC, eD]
  have hcell : ∀ {wq : World}, W9.grownBy wq none → wq.cell? ⟨bA, 1, none⟩ = some (.slice none 0 0) ∧ wq.cell? ⟨bB, 0, none⟩ = some (.int .u64 0) ∧ wq.cell? ⟨bB, 1, none⟩ = some (.slice none 0 0) ∧ wq.cell? ⟨bC, 0, none⟩ = some (.int .u64 (a : Nat)) ∧ wq.cell? ⟨bC, 1, none⟩ = some (.slice (some ⟨g, 0, none⟩) 1 1) ∧ wq.cell? ⟨bC, 2, none⟩ = some (.slice none 0 0) ∧ wq.cell? ⟨bC, 3, none⟩ = some (.slice la 0 lc) ∧ wq.cell? ⟨bD, 0, none⟩ = some (.int .u64 (x : Nat)) ∧ wq.cell? ⟨bD, 1, none⟩ = some (.slice (some ⟨g2, 0, none⟩) 1 k2) ∧ wq.cell? ⟨bD, 2, none⟩ = some (.slice ea 0 ec) ∧ wq.cell? ⟨bD, 3, none⟩ = some (.slice lb 0 ld) := fun {wq} hg => by
    obtain ⟨_, p1, _⟩ := vw_cells ((hg.block _ (lt_of_block kA) (by simp)).trans kA)
    obtain ⟨q0, q1, _⟩ := vw_cells ((hg.block _ (lt_of_block kB) (by simp)).trans kB)
    obtain ⟨r0, r1, r2, r3, _⟩ := vw_cells ((hg.block _ (lt_of_block kC) (by simp)).trans kC)
    obtain ⟨s0, s1, s2, s3, _⟩ := vw_cells ((hg.block _ (lt_of_block hbx) (by simp)).trans hbx)
    exact ⟨p1, q0, q1, r0, r1, r2, r3, s0, s1, s2, s3⟩
  have hgM := grown_trans hg7 (grown_trans hgc g79)
  have HMd := HM.out.later hgM
  have HO := hO7.later (grown_trans hgc g79)
  have HO2 := hO9.later hgx
  have hGW := grown_trans hG3 (grown_trans hG7 g79)
  have HG : W9.grownBy W9.drew none := grown_drew (grown_refl _ _)
  have hof := fun (V : World) (hg : W9.grownBy V none) => of_fr HS.out (HMd.later hg)
  have hsm := fun (V : World) (g3 k3 : Nat) (ea3 lb3 : Option Addr) (ec3 ld3 : Nat) (hg : W9.grownBy V none) (h3 : One V g3 (a - 3776)) => same_one (k := 1) (k' := k3) (x := a) (y := a) (HO.later hg) h3 none ea3 la lb3 0 ec3 lc ld3
  simp only [decide_true] at hsm
  have hsm2 := fun (V : World) (hg : W9.grownBy V none) => same_one (k := 1) (k' := k2) (x := a) (y := x) (HO.later hg) (HO2.later hg) none ea la lb 0 ec lc ld
  rw [HZ.out] at hsm2
  have HOF := Lib.hid hof
  have HSM := Lib.hid hsm
  have HSM2 := Lib.hid hsm2
  obtain ⟨d0, d1, d2, d3, d4, d5, d6, d7, d8, d9, d10⟩ := hcell HG
  clear hof hsm hsm2 HMd HO HO2 hW9 hba hba3 hbb hbc hbd hgd kA kB kC hbx eA eB eC eD hO7 hO9 hgk hgw hgw2 hS4 hS5 hnew hfm hmn hL hft hln hon hga hgb hgc hgx hg1 hg2 hg3 hg4 hg5 hg6 hg7 hg9 hG2 hG3 hG5 hG6 hG7 g37 g79 hgM z0 z1 z2 z3
  go_region_held3 (fun w' => w'.cell? ⟨bA, 1, none⟩ = some (.slice none 0 0) ∧ w'.cell? ⟨bB, 0, none⟩ = some (.int .u64 0) ∧ w'.cell? ⟨bB, 1, none⟩ = some (.slice none 0 0) ∧ w'.cell? ⟨bC, 0, none⟩ = some (.int .u64 (a : Nat)) ∧ w'.cell? ⟨bC, 1, none⟩ = some (.slice (some ⟨g, 0, none⟩) 1 1) ∧ w'.cell? ⟨bC, 2, none⟩ = some (.slice none 0 0) ∧ w'.cell? ⟨bC, 3, none⟩ = some (.slice la 0 lc) ∧ w'.cell? ⟨bD, 0, none⟩ = some (.int .u64 (x : Nat)) ∧ w'.cell? ⟨bD, 1, none⟩ = some (.slice (some ⟨g2, 0, none⟩) 1 k2) ∧ w'.cell? ⟨bD, 2, none⟩ = some (.slice ea 0 ec) ∧ w'.cell? ⟨bD, 3, none⟩ = some (.slice lb 0 ld)) (go_keep) (first
    | (go_at_call 9; (with_reducible refine (han _).mono ?_); rintro e v1 ⟨rfl, hh1⟩; replace HG := grown_trans HG hh1; obtain ⟨d0, d1, d2, d3, d4, d5, d6, d7, d8, d9, d10⟩ := hcell HG)
    | (go_at_call 13; (with_reducible refine (HOF.out _ HG).mono ?_); rintro e v2 ⟨g3, k3, ea3, ec3, lb3, ld3, rfl, hgw3, hO3, hh2⟩; replace HG := grown_trans HG hh2; obtain ⟨d0, d1, d2, d3, d4, d5, d6, d7, d8, d9, d10⟩ := hcell HG; have HO3 := hO3)
    | (go_at_call 16; (with_reducible refine (HSM2.out _ HG).mono ?_); rintro e v4 ⟨rfl, hh4⟩; replace HG := grown_trans HG hh4; obtain ⟨d0, d1, d2, d3, d4, d5, d6, d7, d8, d9, d10⟩ := hcell HG)
    | (go_at_call 16; (with_reducible refine (HSM.out _ _ _ _ _ _ _ HG (hO3.later (by first | exact grown_refl _ _ | exact grown_drewN _ _))).mono ?_); rintro e v3 ⟨rfl, hh3⟩; replace HG := grown_trans HG hh3; obtain ⟨d0, d1, d2, d3, d4, d5, d6, d7, d8, d9, d10⟩ := hcell HG))
  go_wp2
  go_ret
  exact ⟨rfl, grown_trans hGW HG⟩
set_option maxHeartbeats 4000000 in
theorem walk_no (a b : Nat) (ha : a < 18446744073709551616) (hf : ¬ fitsP a 4800) (w : World) :
    Calls Tryz.prog 4 #[.int .u64 a, .int .u64 b] w fun e w' => e = .returned (.bool true) ∧ w.grownBy w' none := by
  have hs : ¬ SizesOk a 4800 := fun h => hf ((sizes_fits a).1 h)
  have hln := fun V => look_nil V
  have hon := fun V => of_nil V
  have hft : ∀ V, Calls Tryz.prog 15 #[.int .u64 (a : Nat), .int .u64 4800] V fun e w' => e = .returned (.bool (decide (fitsP a 4800))) ∧ V = w' := fun V => rfits_any a 4800 V
  have hd : decide (fitsP a 4800) = false := decide_eq_false hf
  rw [hd] at hft
  have HS := Lib.hid hs
  have HF := Lib.hid hf
  clear hs hf hd
  go_enter Tryz.func4, Tryz.ntmps4
  go_wp2_with (first
    | (go_at_call 5; go_must ((with_reducible refine (awake16_any _).mono ?_); rintro e w1 ⟨rfl, hg1⟩))
    | (go_at_call 12; (with_reducible refine (hln _).mono ?_); rintro e w2 ⟨rfl, hg2⟩; have hga := World.grownBy_alloc w2 (.cells #[.int .u64 0, .slice none 0 0, .slice none 0 0, .slice none 0 0] 41) none; have hba := heap_alloc_new' w2 (.cells #[.int .u64 0, .slice none 0 0, .slice none 0 0, .slice none 0 0] 41); have hG2 := grown_trans hg1 (grown_trans hg2 hga))
    | (go_at_call 13; (with_reducible refine (hon _).mono ?_); rintro e w3 ⟨rfl, hg3⟩; have hgb := World.grownBy_alloc w3 (.cells #[.int .u64 0, .slice none 0 0, .slice none 0 0, .slice none 0 0] 41) none; have hG3 := grown_trans hG2 (grown_trans hg3 hgb); have hnew := new48 (w3.alloc (.cells #[.int .u64 0, .slice none 0 0, .slice none 0 0, .slice none 0 0] 41)); simp only [World.size_alloc] at hnew)
    | (go_at_call 6; go_must ((with_reducible refine hnew.mono ?_); rintro e w4 ⟨rfl, hg4, hS4⟩; have hfm' := format_any hS4 a ha; have e600 : 8 * (List.replicate 600 0).length = 4800 := (by rw [List.length_replicate]); have ee : fmtE (List.replicate 600 0) a = 2 := (by unfold fmtE; rw [e600]; exact if_neg HF.out); have ef : fmt (List.replicate 600 0) a = List.replicate 600 0 := (by unfold fmt; rw [e600]; exact if_neg HF.out); rw [ee, ef] at hfm'; have hfm : Calls Tryz.prog 7 #[.pointer (some ⟨w3.heap.size + 1 + 1, 0, none⟩), .int .u64 (a : Nat)] w4 fun e w' => e = .returned (.int .i64 2) ∧ w4.grownBy w' (some (w3.heap.size + 1)) ∧ IsSeg w' (w3.heap.size + 1 + 1) (w3.heap.size + 1) (List.replicate 600 0) := hfm'))
    | (go_at_call 7; go_must ((with_reducible refine hfm.mono ?_); rintro e w5 ⟨rfl, hg5, hS5⟩; have hG5 := grown_new (grown_trans (grown_any hg4 _) hg5) (by simp); have hmn : Calls Tryz.prog 14 #[.int .u64 (a : Nat), .int .u64 4800] w5 _ := mnew_not ha (by decide) HS.out))
    | (go_at_call 14; go_must ((with_reducible refine hmn.mono ?_); rintro e w6 ⟨rfl, rfl⟩; have hL := look_no hS5 chk_zero))
    | (go_at_call 12; (with_reducible refine hL.mono ?_); rintro e w7 ⟨rfl, hg7⟩; have hgc := World.grownBy_alloc w7 (.cells #[.int .u64 0, .slice none 0 0, .slice none 0 0, .slice none 0 0] 41) none; have hbc := heap_alloc_new' w7 (.cells #[.int .u64 0, .slice none 0 0, .slice none 0 0, .slice none 0 0] 41); have hG7 := grown_trans hG3 (grown_trans hG5 (grown_trans hg7 hgc)); obtain ⟨d0, d1, d2, d3, _⟩ := vw_cells hbc)
    | (go_at_call 15; go_must ((with_reducible refine (hft _).mono ?_); rintro e w8 ⟨rfl, rfl⟩)))
  go_ret
  exact ⟨rfl, hG7⟩
end
theorem walk (a : Int) (wa : (Lit.int .u64 a).wf = true) (b : Int) (wb : (Lit.int .u64 b).wf = true) (w : World) :
    Calls Tryz.prog 4 #[.int .u64 a, .int .u64 b] w fun e w' => e = .returned (.bool true) ∧ Below w.heap.size w w' := by
  have b0 := bounds_u64 wa
  have b1 := bounds_u64 wb
  obtain ⟨n, rfl⟩ := Int.eq_ofNat_of_zero_le b0.1
  obtain ⟨m, rfl⟩ := Int.eq_ofNat_of_zero_le b1.1
  by_cases hf : fitsP n 4800
  · exact (walk_yes n m (by omega) (by omega) hf w).mono fun e w' ⟨h1, h2⟩ => ⟨h1, grown_below h2⟩
  · exact (walk_no n m (by omega) hf w).mono fun e w' ⟨h1, h2⟩ => ⟨h1, grown_below h2⟩
theorem laidOut : laidOutB Tryz.prog = true := by kernel_rfl
/-! ### The row's step: the guide's frame -/
theorem own : ownKnob Tryz.prog.godebug = none := by kernel_rfl
set_option maxRecDepth 100000 in
theorem lifted (os : Os) (started : os.Started) (H : Type) (enc : TypeId × Value → H) :
    ReturnsInHanded {} Tryz.checked os 4 .any (Rows.auditNobodySpec.pre6 enc Tryz.prog Tryz.f4 Rows.auditNobodyRow.domain false) (Rows.auditNobodySpec.post enc Tryz.prog Tryz.f4 false true false false) := by
  refine returnsInHanded_of_change (C := Tryz.checked) own started (by kernel_rfl) Tryz.func4
    (ChangeSpec.witness6 (enc := enc) (C := Tryz.checked) false ⟨#[], #[.int .u64 0, .int .u64 0], []⟩ 8 (by kernel_rfl) (by kernel_rfl) (by kernel_rfl) (by kernel_rfl)) ?_
  intro W base args ds gs before hval0 hW hcnd _
  have hval : ∀ (j : Nat) t v, Tryz.f4.params[j]? = some t → args[j]? = some v → Value.okWide Tryz.prog W .any base t v := hval0
  have hW' := hW
  obtain ⟨p, q, hA0, hV, rfl, hfz, hnd⟩ := hW
  have hA : DataW.TrodAll enc Tryz.prog W 0 (fun _ => true) true Tryz.f4.params.toList args.toList ds p := hA0
  rw [Tryz.params4] at hA hval
  obtain ⟨v0, vs0, d0, ds0, p0, q0, hargs, rfl, rfl, h0, r0⟩ := trodAll_cons hA
  obtain ⟨v1, vs1, d1, ds1, p1, q1, rfl, rfl, rfl, h1, r1⟩ := trodAll_cons r0
  obtain ⟨rfl, rfl, rfl⟩ := trodAll_nil r1
  obtain rfl : args = #[v0, v1] := by cases args; simp_all
  obtain ⟨rfl, rfl⟩ := trodVars_none hV
  obtain ⟨a0, rfl, rfl, rfl, w0⟩ := open_int Tryz.underlying22 (hval 0 22 v0 rfl rfl) h0
  obtain ⟨a1, rfl, rfl, rfl, w1⟩ := open_int Tryz.underlying22 (hval 1 22 v1 rfl rfl) h1
  clear hA0 hval0
  refine (walk a0 w0 a1 w1 W).mono fun e W' ⟨he, bel⟩ => ?_
  subst he
  exact ⟨_, rfl, _, _, _, [], _, [], hW', trodAll_mk1 (shut_bool Tryz.underlying4 _), (trodAll_cons_mk (shut_int Tryz.underlying22 w0) (trodAll_cons_mk (shut_int Tryz.underlying22 w1) trodAll_mk0)), rfl, bel.frame _, fun h => by cases h⟩

theorem over : Rows.auditNobodyRow.holds Tryz.pinned (OpenSpec.ofChange Rows.auditNobodySpec) :=
  OpenClaim.holds_of_wide 4 Tryz.f4 rfl rfl rfl rfl rfl rfl rfl ⟨rfl, rfl, rfl, rfl, rfl⟩ rfl rfl rfl rfl rfl (by kernel_rfl) Tryz.func4 (by kernel_rfl)
    (of_decide_eq_true (by kernel_rfl)) (by unfold Func.isWrapper; first | (rw [if_pos (by decide +kernel)]; kernel_rfl) | (rw [if_neg (by decide +kernel)]; exact ⟨rfl, rfl⟩))
    (fun os started H enc _ => lifted os started H enc)

theorem proved : Rows.AuditNobodySaid :=
  over
#print axioms proved


end Go.Proofs.YtmcnpenihoaajaaGreat.auditNobody
