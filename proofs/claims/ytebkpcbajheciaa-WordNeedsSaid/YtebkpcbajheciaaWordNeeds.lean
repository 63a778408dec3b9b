/-
  How large a block of any number of bytes is, how many words these are, any block's rank, and any name's number: all as the document says them. The statement WordNeeds, for every number and every string; no condition.
-/
import Derived.Test.YtebkpcbajheciaaWordF
import Derived.Test.YtebkpcbajheciaaWordS
import Derived.Test.YtebkpcbajheciaaRows
import Derived.ProofKit
import Derived.OpenShut
namespace Go.Proofs.Ytebkpcbajheciaa.wordNeeds
open Go.ChangeShapes Go.WideShapes Go.ChangeAt Go.RowKit
open Go.ChangeMaps (open_string shut_string)
set_option linter.unusedVariables false
set_option linter.unusedSimpArgs false

theorem ret_bool {b : Bool} (h : b = true) : Ending.returned (.bool b) = .returned (.bool true) := by rw [h]
/-- Both tell r, b of n. -/
structure Tells (n r : Nat) (b : Bool) : Prop where
  a : ∀ w : World, Calls Try.prog 16 #[.int .u64 n] w fun e w' => e = .returned (.tuple #[.int .u64 r, .bool b]) ∧ w = w'
  b : ∀ w : World, Calls Try.prog 17 #[.int .u64 n] w fun e w' => e = .returned (.tuple #[.int .u64 r, .bool b]) ∧ w = w'
theorem tells_any (n : Nat) (hn : n < 18446744073709551616) : ∃ r b, Tells n r b := by
  rcases Nat.lt_or_ge (n + 55) 18446744073709551616 with h | h
  · exact ⟨_, _, need_fits n h, rneed_fits n h⟩
  · exact ⟨0, _, need_high n hn h, rneed_high n hn h⟩

set_option maxHeartbeats 400000 in
theorem walk_core (n r : Nat) (b : Bool) (s : ByteArray) (hn : n < 18446744073709551616) (hs : s.size ≤ 9223372036854775807) (HT : Tells n r b) (w : World) :
    Calls Try.prog 4 #[.int .u64 n, .string s] w fun e w' => e = .returned (.bool true) ∧ Below w.heap.size w w' := by
  by_cases hl : 100 < (s.size : Int)
  · go_enter Try.func4, Try.ntmps4
    go_wp2_with (first | (go_at_call 9; refine (awake_any _).mono ?_; rintro e w1 ⟨rfl, hb1⟩))
    go_ret
    exact ⟨rfl, hb1⟩
  · go_enter Try.func4, Try.ntmps4
    go_wp2_with (first | (go_at_call 9; refine (awake_any _).mono ?_; rintro e w1 ⟨rfl, hb1⟩) | (go_at_call 16; refine (HT.a _).mono ?_; rintro e w1 ⟨rfl, rfl⟩) | (go_at_call 17; refine (HT.b _).mono ?_; rintro e w1 ⟨rfl, rfl⟩) | (go_at_call 18; refine (words_any n hn _).mono ?_; rintro e w1 ⟨rfl, rfl⟩) | (go_at_call 19; refine (rwords_any n hn _).mono ?_; rintro e w1 ⟨rfl, rfl⟩) | (go_at_call 20; refine (mix_any _ _).mono ?_; rintro e w1 ⟨rfl, rfl⟩) | (go_at_call 21; refine (rmix_any _ _).mono ?_; rintro e w1 ⟨rfl, rfl⟩) | (go_at_call 22; refine (hash_any s hs _).mono ?_; rintro e w1 ⟨rfl, rfl⟩) | (go_at_call 23; refine (rhash_any s hs _).mono ?_; rintro e w1 ⟨rfl, rfl⟩))
    go_ret
    exact ⟨rfl, hb1⟩
theorem walk (a0 : Int) (a1 : ByteArray) (w0 : (Lit.int .u64 a0).wf = true) (w1 : a1.size ≤ maxLen) (w : World) :
    Calls Try.prog 4 #[.int .u64 a0, .string a1] w fun e w' => e = .returned (.bool true) ∧ Below w.heap.size w w' := by
  have b0 := bounds_u64 w0
  obtain ⟨n, rfl⟩ := Int.eq_ofNat_of_zero_le b0.1
  have hn : n < 18446744073709551616 := by omega
  obtain ⟨r, b, HT⟩ := tells_any n hn
  exact walk_core n r b a1 hn (by unfold maxLen at w1; omega) HT w

/-! ### The row's step: the guide's frame -/
theorem own : ownKnob Try.prog.godebug = none := by kernel_rfl
set_option maxRecDepth 100000 in
theorem lifted (os : Os) (started : os.Started) (H : Type) (enc : TypeId × Value → H) :
    ReturnsInHanded {} Try.checked os 4 .any (Rows.wordNeedsSpec.pre6 enc Try.prog Try.f4 Rows.wordNeedsRow.domain false) (Rows.wordNeedsSpec.post enc Try.prog Try.f4 false true false false) := by
  refine returnsInHanded_of_change (C := Try.checked) own started (by kernel_rfl) Try.func4
    (ChangeSpec.witness6 (enc := enc) (C := Try.checked) false ⟨#[], #[.int .u64 0, .string ByteArray.empty], []⟩ 8 (by kernel_rfl) (by kernel_rfl) (by kernel_rfl) (by kernel_rfl)) ?_
  intro W base args ds gs before hval0 hW hcnd _
  have hval : ∀ (j : Nat) t v, Try.f4.params[j]? = some t → args[j]? = some v → Value.okWide Try.prog W .any base t v := hval0
  have hW' := hW
  obtain ⟨p, q, hA0, hV, rfl, hfz, hnd⟩ := hW
  have hA : DataW.TrodAll enc Try.prog W 0 (fun _ => true) true Try.f4.params.toList args.toList ds p := hA0
  rw [Try.params4] at hA hval
  obtain ⟨v0, vs0, d0, ds0, p0, q0, hargs, rfl, rfl, h0, r0⟩ := trodAll_cons hA
  obtain ⟨v1, vs1, d1, ds1, p1, q1, rfl, rfl, rfl, h1, r1⟩ := trodAll_cons r0
  obtain ⟨rfl, rfl, rfl⟩ := trodAll_nil r1
  obtain rfl : args = #[v0, v1] := by cases args; simp_all
  obtain ⟨rfl, rfl⟩ := trodVars_none hV
  obtain ⟨a0, rfl, rfl, rfl, w0⟩ := open_int Try.underlying22 (hval 0 22 v0 rfl rfl) h0
  obtain ⟨a1, rfl, rfl, rfl, w1⟩ := open_string Try.underlying9 (hval 1 9 v1 rfl rfl) h1
  clear hA0 hval0
  simp only [List.append_nil] at hW'
  refine (walk a0 a1 w0 w1 W).mono fun e W' ⟨he, bel⟩ => ?_
  subst he
  exact ⟨_, rfl, _, _, _, [], _, [], hW', trodAll_mk1 (shut_bool Try.underlying4 _), (trodAll_cons_mk (shut_int Try.underlying22 w0) (trodAll_cons_mk (shut_string Try.underlying9 w1) trodAll_mk0)), rfl, bel.frame _, fun h => by cases h⟩

theorem over : Rows.wordNeedsRow.holds Try.pinned (OpenSpec.ofChange Rows.wordNeedsSpec) :=
  OpenClaim.holds_of_wide 4 Try.f4 rfl rfl rfl rfl rfl rfl rfl ⟨rfl, rfl, rfl, rfl, rfl⟩ rfl rfl rfl rfl rfl (by kernel_rfl) Try.func4 (by kernel_rfl)
    (of_decide_eq_true (by kernel_rfl)) (by unfold Func.isWrapper; first | (rw [if_pos (by decide +kernel)]; kernel_rfl) | (rw [if_neg (by decide +kernel)]; exact ⟨rfl, rfl⟩))
    (fun os started H enc _ => lifted os started H enc)

theorem proved : Rows.WordNeedsSaid :=
  over
#print axioms proved

end Go.Proofs.Ytebkpcbajheciaa.wordNeeds
