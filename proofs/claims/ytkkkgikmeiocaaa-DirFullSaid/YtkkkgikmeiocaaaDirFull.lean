/-
  As many names as there are slots stand, and no more; when one is dropped there is room for one. The statement DirFull; no condition.
-/
import Derived.Test.YtkkkgikmeiocaaaLDik
import Derived.Test.YtkkkgikmeiocaaaLDij
import Derived.Test.YtkkkgikmeiocaaaRows
import Derived.Laws.BytesArg
import Derived.Lib.SmallJoins
import Derived.ProofKit
import Derived.OpenShut
import Derived.Carry
import Derived.ChangeOld
import Derived.Deep.RegionHeld3
namespace Go.Proofs.Ytkkkgikmeiocaaa.dirFull
open Go.ChangeShapes Go.WideShapes Go.ChangeAt Go.RowKit
set_option linter.unusedVariables false
set_option linter.unusedSimpArgs false
set_option maxRecDepth 100000

/-- the i-th name -/
def nmS (n i : Nat) : ByteArray := strOfNums [(n : Int), (i : Int)]
theorem nmS_size (n i : Nat) : (nmS n i).size = 2 := by unfold nmS; rw [strOfNums_size]; rfl
theorem nmS_ok (n i : Nat) : nmOk (nmS n i) := by unfold nmOk; rw [nmS_size]; decide
theorem nmS_ne {n i k : Nat} (hi : i < 16) (hk : k < 16) (h : i ≠ k) : nmS n i ≠ nmS n k := fun e => by
  have e2 := congrArg (fun s : ByteArray => s.data.toList) e
  simp only [nmS, strOfNums_data, List.map_cons, List.map_nil, List.cons.injEq, and_true, true_and, Int.toNat_natCast] at e2
  have e3 := congrArg UInt8.toNat e2
  simp only [UInt8.toNat_ofNat'] at e3
  omega
def more : ByteArray := ⟨#[111, 110, 101, 32, 109, 111, 114, 101]⟩
theorem more_ne (n i : Nat) : nmS n i ≠ more := fun e => by
  have := congrArg ByteArray.size e
  rw [nmS_size] at this
  exact absurd this (by decide)
theorem conv2 (V : World) (n k : Nat) : (convert 53 9 (.slice (some ⟨V.heap.size, 0, none⟩) 2 2)).run Try.prog (V.alloc (.cells #[.int .u8 (n : Nat), .int .u8 (k : Nat)] 5)) = .ok (.string (nmS n k)) (V.alloc (.cells #[.int .u8 (n : Nat), .int .u8 (k : Nat)] 5)) :=
  run_convert_bytes_arg (P := Try.prog) (V.alloc (.cells #[.int .u8 (n : Nat), .int .u8 (k : Nat)] 5)) 53 5 Try.underlying53 Try.underlying5 V.heap.size 0 2 2 [(n : Int), (k : Int)] rfl (fun i hi => by
    have hb := heap_alloc_new' V (.cells #[.int .u8 (n : Nat), .int .u8 (k : Nat)] 5)
    obtain ⟨c0, c1⟩ := two_cells hb
    rcases i with _ | _ | i
    · exact c0
    · exact c1
    · omega) 9 Try.underlying9
set_option maxHeartbeats 8000000 in
theorem core {w : World} {n at' : Nat} (hn : n < 256) (ha : at' < 256) :
    Calls Try.prog 5 #[.int .u8 (n : Nat), .int .u8 (at' : Nat)] w fun e w' => e = .returned (.bool true) ∧ w.grownBy w' none := by
  have hfo : ∀ V : World, Calls Try.prog 21 #[.int .u64 4480, .slice none 0 0] V _ := fun V => formed13_nil 4480 (by decide) V
  have hws : 8 * (fmt48 4480).length = 4800 := by rw [fmt48_len]
  have hz := Stood.nil (f := txSee (fmt48 4480) []) (fun j hj => (fmt_dir (n := 4480) (by unfold fitsP; omega)).at_ hj |>.2.2) (nmS n)
  obtain ⟨ws, ews⟩ : ∃ ws, fmt48 4480 = ws := ⟨_, rfl⟩
  rw [ews] at hfo hws hz
  obtain ⟨g0, e0⟩ : ∃ g, txSee ws [] = g := ⟨_, rfl⟩
  rw [e0] at hz
  have HZ := Lib.hid hz
  clear hz ews
  go_enter Try.func5, Try.ntmps5
  go_wp2_with (first
    | (go_at_call 8; go_must ((with_reducible refine (awake13 _).mono ?_); rintro e w1 ⟨rfl, hg1⟩))
    | (go_at_call 21; go_must ((with_reducible refine (hfo _).mono ?_); rintro e w2 ⟨B, D, T, M, R, wv, pv, rfl, hT, hR, hne⟩; obtain ⟨wa, wn, wc, hwv⟩ := wv_form hR.words; subst hwv; obtain ⟨pa, pn, pc, hpv⟩ := pv_form hR.puts; subst hpv; have ga := World.grownBy_alloc w2 (.cells #[.slice wa wn wc, .slice pa pn pc] 28) none; have D2 : DF w1 _ T R ws g0 := ⟨hws, M, B, D, [], hT.later ga, e0⟩)))
  have G1 := Lib.hid hg1
  clear hT hR hne ga
  obtain ⟨q, eq⟩ : ∃ q, at' % 16 = q := ⟨_, rfl⟩
  have hq : q < 16 := by omega
  have htm : ((at' : Nat) : Int).tmod 16 = ((q : Nat) : Int) := by rw [Int.tmod_eq_emod_of_nonneg (by omega)]; omega
  have hqw : IntKind.u8.wrap ((q : Nat) : Int) = ((q : Nat) : Int) := by rw [IntKind.wrap_u8]; omega
  go_loopw [8] (fun i wr => ∃ k R f, k ≤ 16 ∧ i = .int .i64 (k : Nat) ∧ DF w1 wr T R ws f ∧ Stood (nmS n) k f) (fun i _ => 16 - (intOf i).toNat)
  case atStart => exact ⟨0, R, g0, by decide, rfl, D2, HZ.out⟩
  case round =>
    obtain ⟨k, R5, f, hk, rfl, hD, hS⟩ := hrel
    by_cases h1 : k < 16
    · have hki : (k : Int) < 16 := by omega
      have hk8 : IntKind.u8.wrap (k : Int) = (k : Int) := by rw [IntKind.wrap_u8]; omega
      have hk100 : IntKind.i64.wrap (100 + (k : Int)) = ((100 + k : Nat) : Int) := by rw [IntKind.wrap_i64]; omega
      have hk64 : IntKind.u64.wrap ((100 + k : Nat) : Int) = ((100 + k : Nat) : Int) := by rw [IntKind.wrap_u64]; omega
      have hk1 : IntKind.i64.wrap ((k : Int) + 1) = ((k + 1 : Nat) : Int) := by rw [IntKind.wrap_i64]; omega
      obtain ⟨p1, p2⟩ := hS.put h1 (nmS_ok n) (fun i hi => nmS_ne (by omega) h1 (by omega))
      have hconv := conv2 wr n k
      have hga := World.grownBy_alloc wr (.cells #[.int .u8 (n : Nat), .int .u8 (k : Nat)] 5) none
      have hpu := dput_c (p := 100 + k) (hD.later hga) (by rw [nmS_size]; decide : (nmS n k).size ≤ maxLen) (by omega)
      rw [p1] at hpu
      have hms : 16 - (k + 1) < 16 - k := by omega
      obtain ⟨nk, enk⟩ : ∃ s, nmS n k = s := ⟨_, rfl⟩
      obtain ⟨pk, epk⟩ : ∃ s, 100 + k = s := ⟨_, rfl⟩
      rw [enk, epk] at p2 hpu
      rw [enk] at hconv
      rw [epk] at hk100 hk64
      have P2 := Lib.hid p2
      clear p1 p2 hS hD enk epk
      go_wp2_with (first | (go_at_call 19; go_must ((with_reducible refine hpu.mono ?_); rintro e w5 ⟨rfl, R6, D6, k6⟩)))
      go_roundw
      case rel => exact ⟨k + 1, R6, _, by omega, by go_num, D6, P2.out⟩
      case measure => simp [intOf]; omega
    · obtain rfl : k = 16 := by omega
      have hkk : ¬ ((16 : Nat) : Int) < 16 := by omega
      obtain ⟨l1, l2, l3, l4, l5, l6, l7⟩ := hS.last (t := more) (by decide) (nmS_ok n) (fun i k hi hk h => nmS_ne hi hk h) (more_ne n) hq
      have a1 := dput_c (s := more) (p := 5) hD (by decide) (by decide)
      rw [l1, l2] at a1
      have a1' : Calls Try.prog 19 #[.pointer (some ⟨T, 0, none⟩), .string ⟨#[111, 110, 101, 32, 109, 111, 114, 101]⟩, .int .u64 5] wr fun e w' => e = .returned (.int .i64 9) ∧ ∃ R', DF w1 w' T R' ws f ∧ Keep wr R5 w' R' := a1
      have a2 : ∀ V R, DF w1 V T R ws f → Calls Try.prog 20 #[.pointer (some ⟨T, 0, none⟩), .string (nmS n q)] V fun e w' => e = .returned (.bool true) ∧ ∃ R', DF w1 w' T R' ws (drpF f (nmS n q)) ∧ Keep V R w' R' := fun V R h => by
        have := ddrop_c h (s := nmS n q) (by rw [nmS_size]; decide)
        rw [l3] at this
        exact this
      obtain ⟨f2, ef2⟩ : ∃ g, drpF f (nmS n q) = g := ⟨_, rfl⟩
      rw [ef2] at a2 l4 l5 l6 l7
      have a3 : ∀ V R, DF w1 V T R ws f2 → Calls Try.prog 19 #[.pointer (some ⟨T, 0, none⟩), .string ⟨#[111, 110, 101, 32, 109, 111, 114, 101]⟩, .int .u64 5] V fun e w' => e = .returned (.int .i64 0) ∧ ∃ R', DF w1 w' T R' ws (putW f2 more 5) ∧ Keep V R w' R' := fun V R h => by
        have := dput_c (s := more) (p := 5) h (by decide) (by decide)
        rw [l4] at this
        exact this
      obtain ⟨f3, ef3⟩ : ∃ g, putW f2 more 5 = g := ⟨_, rfl⟩
      rw [ef3] at a3 l5 l6 l7
      have hconv := fun V : World => conv2 V n q
      obtain ⟨nq, enq⟩ : ∃ s, nmS n q = s := ⟨_, rfl⟩
      have hconvq := hconv
      rw [enq] at a2
      simp only [enq] at hconvq
      have A2 := Lib.hid a2
      have A3 := Lib.hid a3
      have L5 := Lib.hid l5
      have L6 := Lib.hid l6
      have L7 := Lib.hid l7
      have EQ := Lib.hid enq
      clear a1 a2 a3 l1 l2 l3 l4 l5 l6 l7 hS hD ef2 ef3 hconv enq eq hk
      go_wp2_with (first
        | (go_at_call 19; ((with_reducible refine a1'.mono ?_); rintro e w5 ⟨rfl, R6, D6, k6⟩; have hcv := hconvq w5; have c6 := A2.out _ _ (D6.later (World.grownBy_alloc w5 (.cells #[.int .u8 (n : Nat), .int .u8 (q : Nat)] 5) none))))
        | (go_at_call 20; ((with_reducible refine c6.mono ?_); rintro e w6 ⟨rfl, R7, D7, k7⟩; have c7 := A3.out _ _ D7))
        | (go_at_call 19; ((with_reducible refine c7.mono ?_); rintro e w7 ⟨rfl, R8, D8, k8⟩)))
      have D8H := Lib.hid D8
      clear c6 c7 hcv D6 D7 D8 k6 k7 k8 a1' A2 A3
      go_loopw [12] (fun i wz => ∃ (k : Nat) (R : Option Nat), k ≤ 16 ∧ i = .int .i64 (k : Nat) ∧ DF w1 wz T R ws f3) (fun i _ => 16 - (intOf i).toNat)
      case atStart => exact ⟨0, R8, by decide, rfl, D8H.out⟩
      case round =>
        obtain ⟨k, R9, hk, rfl, hD⟩ := hrel
        by_cases h1 : k < 16
        · have hki : (k : Int) < 16 := by omega
          have hk8 : IntKind.u8.wrap (k : Int) = (k : Int) := by rw [IntKind.wrap_u8]; omega
          have hk100 : IntKind.i64.wrap (100 + (k : Int)) = ((100 + k : Nat) : Int) := by rw [IntKind.wrap_i64]; omega
          have hk64 : IntKind.u64.wrap ((100 + k : Nat) : Int) = ((100 + k : Nat) : Int) := by rw [IntKind.wrap_u64]; omega
          have hk1 : IntKind.i64.wrap ((k : Int) + 1) = ((k + 1 : Nat) : Int) := by rw [IntKind.wrap_i64]; omega
          have hms : 16 - (k + 1) < 16 - k := by omega
          have hga := World.grownBy_alloc wr (.cells #[.int .u8 (n : Nat), .int .u8 (k : Nat)] 5) none
          have hconv := conv2 wr n k
          have hfi := dfind_c (hD.later hga) (s := nmS n k) (by rw [nmS_size]; decide)
          by_cases hkq : k = q
          · subst hkq
            have hne : ((k : Int) != (k : Int)) = false := by simp
            unfold fndN at hfi
            rw [L6.out, EQ.out] at hfi
            rw [EQ.out] at hconv
            have hfi' : Calls Try.prog 10 #[.pointer (some ⟨T, 0, none⟩), .string nq] _ fun e w' => e = .returned (.tuple #[.int .u64 0, .bool false]) ∧ World.grownBy _ w' none := hfi
            clear hfi
            go_wp2_with (first | (go_at_call 10; go_must ((with_reducible refine hfi'.mono ?_); rintro e w9 ⟨rfl, hg9⟩)))
            go_roundw
            case rel => exact ⟨k + 1, R9, by omega, by go_num, (hD.later hga).later hg9⟩
            case measure => simp [intOf]; omega
          · have hne : ((k : Int) != (q : Int)) = true := by simp; omega
            obtain ⟨m1, m2⟩ := L5.out k h1 hkq
            rw [m1, m2] at hfi
            obtain ⟨pk, epk⟩ : ∃ s, 100 + k = s := ⟨_, rfl⟩
            rw [epk] at hk100 hk64 hfi
            have hpp : ((pk : Int) != (pk : Int)) = false := by simp
            obtain ⟨nk, enk⟩ : ∃ s, nmS n k = s := ⟨_, rfl⟩
            rw [enk] at hconv hfi
            clear epk enk m1 m2
            go_wp2_with (first | (go_at_call 10; go_must ((with_reducible refine hfi.mono ?_); rintro e w9 ⟨rfl, hg9⟩)))
            go_roundw
            case rel => exact ⟨k + 1, R9, by omega, by go_num, (hD.later hga).later hg9⟩
            case measure => simp [intOf]; omega
        · obtain rfl : k = 16 := by omega
          have hkk : ¬ ((16 : Nat) : Int) < 16 := by omega
          have hal := dall_c hD
          go_wp2_with (first | (go_at_call 15; go_must ((with_reducible refine hal.mono ?_); rintro e w9 ⟨v, rfl, ho, hg9⟩; obtain ⟨a, c', hv⟩ := ho.form; rw [L7.out] at hv; subst hv; have D9 := hD.later hg9)))
          go_ret
          exact ⟨rfl, grown_trans G1.out D9.since⟩
theorem walk (n : Int) (wn : (Lit.int .u8 n).wf = true) (a : Int) (wa : (Lit.int .u8 a).wf = true) {w : World} :
    Calls Try.prog 5 #[.int .u8 n, .int .u8 a] w fun e w' => e = .returned (.bool true) ∧ Below w.heap.size w w' := by
  have b1 := bounds_u8 wn
  have b2 := bounds_u8 wa
  obtain ⟨n', rfl⟩ := Int.eq_ofNat_of_zero_le b1.1
  obtain ⟨a', rfl⟩ := Int.eq_ofNat_of_zero_le b2.1
  exact (core (by omega) (by omega)).mono fun e w' ⟨h1, h2⟩ => ⟨h1, grown_below h2⟩
theorem laidOut : laidOutB Try.prog = true := by kernel_rfl
/-! ### The row's step: the guide's frame -/
theorem own : ownKnob Try.prog.godebug = none := by kernel_rfl
set_option maxRecDepth 100000 in
theorem lifted (os : Os) (started : os.Started) (H : Type) (enc : TypeId × Value → H) :
    ReturnsInHanded {} Try.checked os 5 .any (Rows.dirFullSpec.pre6 enc Try.prog Try.f5 Rows.dirFullRow.domain false) (Rows.dirFullSpec.post enc Try.prog Try.f5 false true false false) := by
  refine returnsInHanded_of_change (C := Try.checked) own started (by kernel_rfl) Try.func5
    (ChangeSpec.witness6 (enc := enc) (C := Try.checked) false ⟨#[], #[.int .u8 0, .int .u8 0], []⟩ 8 (by kernel_rfl) (by kernel_rfl) (by kernel_rfl) (by kernel_rfl)) ?_
  intro W base args ds gs before hval0 hW hcnd _
  have hval : ∀ (j : Nat) t v, Try.f5.params[j]? = some t → args[j]? = some v → Value.okWide Try.prog W .any base t v := hval0
  have hW' := hW
  obtain ⟨p, q, hA0, hV, rfl, hfz, hnd⟩ := hW
  have hA : DataW.TrodAll enc Try.prog W 0 (fun _ => true) true Try.f5.params.toList args.toList ds p := hA0
  rw [Try.params5] at hA hval
  obtain ⟨v0, vs0, d0, ds0, p0, q0, hargs, rfl, rfl, h0, r0⟩ := trodAll_cons hA
  obtain ⟨v1, vs1, d1, ds1, p1, q1, rfl, rfl, rfl, h1, r1⟩ := trodAll_cons r0
  obtain ⟨rfl, rfl, rfl⟩ := trodAll_nil r1
  obtain rfl : args = #[v0, v1] := by cases args; simp_all
  obtain ⟨rfl, rfl⟩ := trodVars_none hV
  obtain ⟨a0, rfl, rfl, rfl, w0⟩ := open_int Try.underlying5 (hval 0 5 v0 rfl rfl) h0
  obtain ⟨a1, rfl, rfl, rfl, w1⟩ := open_int Try.underlying5 (hval 1 5 v1 rfl rfl) h1
  clear hA0 hval0
  refine (walk a0 w0 a1 w1).mono fun e W' ⟨he, bel⟩ => ?_
  subst he
  exact ⟨_, rfl, _, _, _, [], _, [], hW', trodAll_mk1 (shut_bool Try.underlying4 _), (trodAll_cons_mk (shut_int Try.underlying5 w0) (trodAll_cons_mk (shut_int Try.underlying5 w1) trodAll_mk0)), rfl, bel.frame _, fun h => by cases h⟩

theorem over : Rows.dirFullRow.holds Try.pinned (OpenSpec.ofChange Rows.dirFullSpec) :=
  OpenClaim.holds_of_wide 5 Try.f5 rfl rfl rfl rfl rfl rfl rfl ⟨rfl, rfl, rfl, rfl, rfl⟩ rfl rfl rfl rfl rfl (by kernel_rfl) Try.func5 (by kernel_rfl)
    (of_decide_eq_true (by kernel_rfl)) (by unfold Func.isWrapper; first | (rw [if_pos (by decide +kernel)]; kernel_rfl) | (rw [if_neg (by decide +kernel)]; exact ⟨rfl, rfl⟩))
    (fun os started H enc _ => lifted os started H enc)

theorem proved : Rows.DirFullSaid :=
  over
#print axioms proved


end Go.Proofs.Ytkkkgikmeiocaaa.dirFull
