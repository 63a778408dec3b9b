/-
  Whether any tag may be, its word, and the tag of any word, or that it is none. The statement TagTells, for every tag, and every number; no condition.
-/
import Derived.Test.YtgebkdngglljeaaTagF
import Derived.Test.YtgebkdngglljeaaTagO
namespace Go.Proofs.Ytgebkdngglljeaa.tagTells
open Go.ChangeShapes Go.WideShapes Go.ChangeAt Go.RowKit
set_option linter.unusedVariables false
set_option linter.unusedSimpArgs false

set_option maxRecDepth 100000 in
set_option maxHeartbeats 8000000 in
theorem core (s : Nat) (u : Bool) (o : Int) (x : Nat) (hx : x < 18446744073709551616) (w : World) :
    Calls Try.prog 3 #[.agg #[.int .u64 s, .bool u, .int .i64 o], .int .u64 x] w fun e w' => e = .returned (.bool true) ∧ w.grownBy w' none := by
  have hun := fun w => tunpack_any x hx w
  have hru := fun w => rtunpack_any x hx w
  obtain ⟨s2, a1⟩ : ∃ k, tS x = k := ⟨_, rfl⟩
  obtain ⟨u2, a2⟩ : ∃ k, tU x = k := ⟨_, rfl⟩
  obtain ⟨o2, a3⟩ : ∃ k, tO x = k := ⟨_, rfl⟩
  obtain ⟨is, a4⟩ : ∃ k, decide (mayW x) = k := ⟨_, rfl⟩
  rw [a1, a2, a3, a4] at hun hru
  have hm := fun w => tmay_any s u o w
  have hrm := fun w => rtmay_any s u o w
  have hp := fun w => tpack_any s u o w
  have hrp := fun w => rtpack_any s u o w
  obtain ⟨m, b1⟩ : ∃ k, decide (mayP s u o) = k := ⟨_, rfl⟩
  obtain ⟨p, b2⟩ : ∃ k, packN s u o = k := ⟨_, rfl⟩
  rw [b1] at hm hrm
  rw [b2] at hp hrp
  have hmd := fun w => made_any s u o w
  have hmd2 := fun w => made_any s2 u2 (o2 : Nat) w
  clear a1 a2 a3 a4 b1 b2
  go_enter Try.func3, Try.ntmps3
  go_wp2_with (first | (go_at_call 8; ((with_reducible refine (awake5 _).mono ?_); rintro e w1 ⟨rfl, hg1⟩)) | (go_at_call 9; ((with_reducible refine (hun _).mono ?_); rintro e w2 ⟨rfl, hg2⟩; have hga := World.grownBy_alloc w2 (.cells #[.int .u64 s2, .bool u2, .int .i64 o2] 26) none)) | (go_at_call 10; ((with_reducible refine (hru _).mono ?_); rintro e w3 ⟨rfl, hg3⟩; have hgb := World.grownBy_alloc w3 (.cells #[.int .u64 s2, .bool u2, .int .i64 o2] 24) none)))
  have hg0 : w.grownBy (w.alloc (.cells #[.int .u64 s, .bool u, .int .i64 o] 24)) none := World.grownBy_alloc _ _ _
  have G3 := grown_trans hg1 (grown_trans (grown_trans hg2 hga) (grown_trans hg3 hgb))
  have hcell : ∀ {wr : World}, (w3.alloc (.cells #[.int .u64 s2, .bool u2, .int .i64 o2] 24)).grownBy wr none →
      (wr.cell? ⟨w.heap.size, 0, none⟩ = some (.int .u64 s) ∧ wr.cell? ⟨w.heap.size, 1, none⟩ = some (.bool u) ∧ wr.cell? ⟨w.heap.size, 2, none⟩ = some (.int .i64 o)) ∧
      (wr.cell? ⟨w2.heap.size, 0, none⟩ = some (.int .u64 s2) ∧ wr.cell? ⟨w2.heap.size, 1, none⟩ = some (.bool u2) ∧ wr.cell? ⟨w2.heap.size, 2, none⟩ = some (.int .i64 o2)) ∧
      (wr.cell? ⟨w3.heap.size, 0, none⟩ = some (.int .u64 s2) ∧ wr.cell? ⟨w3.heap.size, 1, none⟩ = some (.bool u2) ∧ wr.cell? ⟨w3.heap.size, 2, none⟩ = some (.int .i64 o2)) := fun {wr} hg =>
    ⟨tag_cells (tag_first (grown_trans G3 hg)), tag_cells (tag_first (grown_trans (grown_trans hg3 hgb) hg)), tag_cells (tag_first hg)⟩
  have HG : (w3.alloc (.cells #[.int .u64 s2, .bool u2, .int .i64 o2] 24)).grownBy (w3.alloc (.cells #[.int .u64 s2, .bool u2, .int .i64 o2] 24)).drew none := grown_drew (grown_refl _ _)
  obtain ⟨⟨x0, x1, x2⟩, ⟨y0, y1, y2⟩, z0, z1, z2⟩ := hcell HG
  go_region_held3 (fun wr => (wr.cell? ⟨w.heap.size, 0, none⟩ = some (.int .u64 s) ∧ wr.cell? ⟨w.heap.size, 1, none⟩ = some (.bool u) ∧ wr.cell? ⟨w.heap.size, 2, none⟩ = some (.int .i64 o)) ∧
      (wr.cell? ⟨w2.heap.size, 0, none⟩ = some (.int .u64 s2) ∧ wr.cell? ⟨w2.heap.size, 1, none⟩ = some (.bool u2) ∧ wr.cell? ⟨w2.heap.size, 2, none⟩ = some (.int .i64 o2)) ∧
      (wr.cell? ⟨w3.heap.size, 0, none⟩ = some (.int .u64 s2) ∧ wr.cell? ⟨w3.heap.size, 1, none⟩ = some (.bool u2) ∧ wr.cell? ⟨w3.heap.size, 2, none⟩ = some (.int .i64 o2))) (exact hcell HG)
    (first | (go_at_call 12; ((with_reducible refine (hmd _).mono ?_); rintro e w9 ⟨rfl, hg9⟩; replace HG := grown_trans HG hg9)) | (go_at_call 12; ((with_reducible refine (hmd2 _).mono ?_); rintro e w9 ⟨rfl, hg9⟩; replace HG := grown_trans HG hg9)) | (go_at_call 11; ((with_reducible refine (hm _).mono ?_); rintro e w9 ⟨rfl, hg9⟩; replace HG := grown_trans HG hg9)) | (go_at_call 13; ((with_reducible refine (hrm _).mono ?_); rintro e w9 ⟨rfl, hg9⟩; replace HG := grown_trans HG hg9)) | (go_at_call 14; ((with_reducible refine (hp _).mono ?_); rintro e w9 ⟨rfl, hg9⟩; replace HG := grown_trans HG hg9)) | (go_at_call 15; ((with_reducible refine (hrp _).mono ?_); rintro e w9 ⟨rfl, hg9⟩; replace HG := grown_trans HG hg9)))
  go_wp2
  go_ret
  exact ⟨ret_bool' (by simp), grown_trans hg0 (grown_trans G3 HG)⟩
theorem walk (s : Nat) (u : Bool) (o : Int) (hs : s < 18446744073709551616) (a : Int) (wa : (Lit.int .u64 a).wf = true) (w : World) :
    Calls Try.prog 3 #[.agg #[.int .u64 s, .bool u, .int .i64 o], .int .u64 a] w fun e w' => e = .returned (.bool true) ∧ Below w.heap.size w w' := by
  have b0 := bounds_u64 wa
  obtain ⟨n, rfl⟩ := Int.eq_ofNat_of_zero_le b0.1
  exact (core s u o n (by omega) w).mono fun e w' ⟨h1, h2⟩ => ⟨h1, grown_below h2⟩

theorem laidOut : laidOutB Try.prog = true := by kernel_rfl
/-! ### The row's step: the guide's frame -/
theorem own : ownKnob Try.prog.godebug = none := by kernel_rfl
set_option maxRecDepth 100000 in
theorem lifted (os : Os) (started : os.Started) (H : Type) (enc : TypeId × Value → H) :
    ReturnsInHanded {} Try.checked os 3 .any (Rows.tagTellsSpec.pre6 enc Try.prog Try.f3 Rows.tagTellsRow.domain false) (Rows.tagTellsSpec.post enc Try.prog Try.f3 false true false false) := by
  refine returnsInHanded_of_change (C := Try.checked) own started (by kernel_rfl) Try.func3
    (ChangeSpec.witness6 (enc := enc) (C := Try.checked) false ⟨#[], #[.agg #[.int .u64 0, .bool false, .int .i64 0], .int .u64 0], []⟩ 8 (by kernel_rfl) (by kernel_rfl) (by kernel_rfl) (by kernel_rfl)) ?_
  intro W base args ds gs before hval0 hW hcnd _
  have hval : ∀ (j : Nat) t v, Try.f3.params[j]? = some t → args[j]? = some v → Value.okWide Try.prog W .any base t v := hval0
  have hW' := hW
  obtain ⟨p, q, hA0, hV, rfl, hfz, hnd⟩ := hW
  have hA : DataW.TrodAll enc Try.prog W 0 (fun _ => true) true Try.f3.params.toList args.toList ds p := hA0
  rw [Try.params3] at hA hval
  obtain ⟨v0, vs0, d0, ds0, p0, q0, hargs, rfl, rfl, h0, r0⟩ := trodAll_cons hA
  obtain ⟨v1, vs1, d1, ds1, p1, q1, rfl, rfl, rfl, h1, r1⟩ := trodAll_cons r0
  obtain ⟨rfl, rfl, rfl⟩ := trodAll_nil r1
  obtain rfl : args = #[v0, v1] := by cases args; simp_all
  obtain ⟨rfl, rfl⟩ := trodVars_none hV
  have lt0 : ∀ x ∈ p0, x.block < W.heap.size := by obtain ⟨m, hm⟩ := h0; exact DataW.trod_lt m _ _ _ hm
  obtain ⟨s0, u0, o0, rfl, hs0⟩ := open_tag (hval 0 24 v0 rfl rfl) h0
  obtain ⟨a1, rfl, rfl, rfl, w1⟩ := open_int Try.underlying22 (hval 1 22 v1 rfl rfl) h1
  clear hA0 hval0
  refine (walk s0 u0 o0 hs0 a1 w1 W).mono fun e W' ⟨he, bel⟩ => ?_
  subst he
  exact ⟨_, rfl, _, _, _, [], _, [], hW', trodAll_mk1 (shut_bool Try.underlying4 _), (trodAll_cons_mk (Below.trod laidOut (by kernel_rfl) (of_decide_eq_true (by kernel_rfl)) h0 bel lt0) (trodAll_cons_mk (shut_int Try.underlying22 w1) trodAll_mk0)), rfl, bel.frame _, fun h => by cases h⟩

theorem over : Rows.tagTellsRow.holds Try.pinned (OpenSpec.ofChange Rows.tagTellsSpec) :=
  OpenClaim.holds_of_wide 3 Try.f3 rfl rfl rfl rfl rfl rfl rfl ⟨rfl, rfl, rfl, rfl, rfl⟩ rfl rfl rfl rfl rfl (by kernel_rfl) Try.func3 (by kernel_rfl)
    (of_decide_eq_true (by kernel_rfl)) (by unfold Func.isWrapper; first | (rw [if_pos (by decide +kernel)]; kernel_rfl) | (rw [if_neg (by decide +kernel)]; exact ⟨rfl, rfl⟩))
    (fun os started H enc _ => lifted os started H enc)

theorem proved : Rows.TagTellsSaid :=
  over
#print axioms proved


end Go.Proofs.Ytgebkdngglljeaa.tagTells
