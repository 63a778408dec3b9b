/-
  A block is a multiple of 16, has room for its bytes and 40 more, and 15 to spare at most beyond 8; of more bytes it is no smaller. The statement WordBlocks, for every two numbers; no condition.
-/
import Derived.Test.YtebkpcbajheciaaWordF
import Derived.Test.YtebkpcbajheciaaRows
import Derived.ProofKit
import Derived.OpenShut
namespace Go.Proofs.Ytebkpcbajheciaa.wordBlocks
open Go.ChangeShapes Go.WideShapes Go.ChangeAt Go.RowKit
set_option linter.unusedVariables false
set_option linter.unusedSimpArgs false

theorem ret_bool {b : Bool} (h : b = true) : Ending.returned (.bool b) = .returned (.bool true) := by rw [h]

/-- What Need tells of n: r, b. -/
def Tells (n r : Nat) (b : Bool) : Prop := ∀ w : World, Calls Try.prog 16 #[.int .u64 n] w fun e w' => e = .returned (.tuple #[.int .u64 r, .bool b]) ∧ w = w'
theorem Tells.at {n r : Nat} {b : Bool} (h : Tells n r b) (w : World) : Calls Try.prog 16 #[.int .u64 n] w fun e w' => e = .returned (.tuple #[.int .u64 r, .bool b]) ∧ w = w' := h w
theorem tells_any (n : Nat) (hn : n < 18446744073709551616) : ∃ r b, Tells n r b := by
  rcases Nat.lt_or_ge (n + 55) 18446744073709551616 with h | h
  · exact ⟨_, _, need_fits n h⟩
  · exact ⟨0, _, need_high n hn h⟩

set_option maxHeartbeats 400000 in
theorem walk_not (n m r : Nat) (b : Bool) (hn : n < 18446744073709551616) (hm : m < 18446744073709551616) (h : 18446744073709551616 ≤ n + 55) (HM : Tells m r b) (w : World) :
    Calls Try.prog 7 #[.int .u64 n, .int .u64 m] w fun e w' => e = .returned (.bool true) ∧ Below w.heap.size w w' := by
  go_enter Try.func7, Try.ntmps7
  go_wp2_with (first | (go_at_call 9; refine (awake_any _).mono ?_; rintro e w1 ⟨rfl, hb1⟩) | (go_at_call 16; with_reducible refine (need_high n hn h _).mono ?_; rintro e w1 ⟨rfl, rfl⟩) | (go_at_call 16; with_reducible refine (HM.at _).mono ?_; rintro e w1 ⟨rfl, rfl⟩))
  go_ret
  exact ⟨ret_bool (decide_eq_true (by omega)), hb1⟩
set_option maxHeartbeats 1000000 in
theorem walk_fits (n m q r : Nat) (b : Bool) (hn : n + 55 < 18446744073709551616) (hm : m < 18446744073709551616) (HN : Tells n q true) (HM : Tells m r b)
    (q1 : 48 ≤ q) (q2 : n + 40 ≤ q) (q3 : q < 18446744073709551616) (q4 : q % 16 = 0) (q5 : n < 8 ∨ 8 ≤ n ∧ q < n + 56) (hr : n < m ∨ m ≤ n ∧ b = true ∧ r ≤ q) (w : World) :
    Calls Try.prog 7 #[.int .u64 n, .int .u64 m] w fun e w' => e = .returned (.bool true) ∧ Below w.heap.size w w' := by
  have q6 : (q : Int) % 16 = 0 := by omega
  clear q4
  rcases hr with hr | ⟨hr, rfl, hr2⟩
  all_goals
    rcases q5 with q5 | ⟨q5, q7⟩
    all_goals
      go_enter Try.func7, Try.ntmps7
      go_wp2_with (first | (go_at_call 9; refine (awake_any _).mono ?_; rintro e w1 ⟨rfl, hb1⟩) | (go_at_call 16; with_reducible refine (HN.at _).mono ?_; rintro e w1 ⟨rfl, rfl⟩) | (go_at_call 16; with_reducible refine (HM.at _).mono ?_; rintro e w1 ⟨rfl, rfl⟩) | (go_at_call 18; with_reducible refine (words_any n (by omega) _).mono ?_; rintro e w1 ⟨rfl, rfl⟩))
      go_ret
      refine ⟨ret_bool ?_, hb1⟩
      first | exact decide_eq_true (by omega) | (simp only [Bool.and_eq_true, Bool.or_eq_true, decide_eq_true_eq]; omega)
theorem walk (a0 : Int) (a1 : Int) (w0 : (Lit.int .u64 a0).wf = true) (w1 : (Lit.int .u64 a1).wf = true) (w : World) :
    Calls Try.prog 7 #[.int .u64 a0, .int .u64 a1] w fun e w' => e = .returned (.bool true) ∧ Below w.heap.size w w' := by
  have b0 := bounds_u64 w0
  have b1 := bounds_u64 w1
  obtain ⟨n, rfl⟩ := Int.eq_ofNat_of_zero_le b0.1
  obtain ⟨m, rfl⟩ := Int.eq_ofNat_of_zero_le b1.1
  have hn : n < 18446744073709551616 := by omega
  have hm : m < 18446744073709551616 := by omega
  rcases Nat.lt_or_ge (n + 55) 18446744073709551616 with h | h
  · have HN : Tells n (needOf n) true := need_fits n h
    have hq : 48 ≤ needOf n ∧ n + 40 ≤ needOf n ∧ needOf n < 18446744073709551616 ∧ needOf n % 16 = 0 ∧ (n < 8 ∨ 8 ≤ n ∧ needOf n < n + 56) := by
      unfold needOf; split <;> omega
    rcases Nat.lt_or_ge n m with hl | hl
    · obtain ⟨r, b, HM⟩ := tells_any m hm
      exact walk_fits n m _ r b h hm HN HM hq.1 hq.2.1 hq.2.2.1 hq.2.2.2.1 hq.2.2.2.2 (.inl hl) w
    · have HM : Tells m (needOf m) true := need_fits m (by omega)
      exact walk_fits n m _ _ true h hm HN HM hq.1 hq.2.1 hq.2.2.1 hq.2.2.2.1 hq.2.2.2.2 (.inr ⟨hl, rfl, by unfold needOf; split <;> split <;> omega⟩) w
  · obtain ⟨r, b, HM⟩ := tells_any m hm
    exact walk_not n m r b hn hm h HM w

/-! ### The row's step: the guide's frame -/
theorem own : ownKnob Try.prog.godebug = none := by kernel_rfl
set_option maxRecDepth 100000 in
theorem lifted (os : Os) (started : os.Started) (H : Type) (enc : TypeId × Value → H) :
    ReturnsInHanded {} Try.checked os 7 .any (Rows.wordBlocksSpec.pre6 enc Try.prog Try.f7 Rows.wordBlocksRow.domain false) (Rows.wordBlocksSpec.post enc Try.prog Try.f7 false true false false) := by
  refine returnsInHanded_of_change (C := Try.checked) own started (by kernel_rfl) Try.func7
    (ChangeSpec.witness6 (enc := enc) (C := Try.checked) false ⟨#[], #[.int .u64 0, .int .u64 0], []⟩ 8 (by kernel_rfl) (by kernel_rfl) (by kernel_rfl) (by kernel_rfl)) ?_
  intro W base args ds gs before hval0 hW hcnd _
  have hval : ∀ (j : Nat) t v, Try.f7.params[j]? = some t → args[j]? = some v → Value.okWide Try.prog W .any base t v := hval0
  have hW' := hW
  obtain ⟨p, q, hA0, hV, rfl, hfz, hnd⟩ := hW
  have hA : DataW.TrodAll enc Try.prog W 0 (fun _ => true) true Try.f7.params.toList args.toList ds p := hA0
  rw [Try.params7] at hA hval
  obtain ⟨v0, vs0, d0, ds0, p0, q0, hargs, rfl, rfl, h0, r0⟩ := trodAll_cons hA
  obtain ⟨v1, vs1, d1, ds1, p1, q1, rfl, rfl, rfl, h1, r1⟩ := trodAll_cons r0
  obtain ⟨rfl, rfl, rfl⟩ := trodAll_nil r1
  obtain rfl : args = #[v0, v1] := by cases args; simp_all
  obtain ⟨rfl, rfl⟩ := trodVars_none hV
  obtain ⟨a0, rfl, rfl, rfl, w0⟩ := open_int Try.underlying22 (hval 0 22 v0 rfl rfl) h0
  obtain ⟨a1, rfl, rfl, rfl, w1⟩ := open_int Try.underlying22 (hval 1 22 v1 rfl rfl) h1
  clear hA0 hval0
  simp only [List.append_nil] at hW'
  refine (walk a0 a1 w0 w1 W).mono fun e W' ⟨he, bel⟩ => ?_
  subst he
  exact ⟨_, rfl, _, _, _, [], _, [], hW', trodAll_mk1 (shut_bool Try.underlying4 _), (trodAll_cons_mk (shut_int Try.underlying22 w0) (trodAll_cons_mk (shut_int Try.underlying22 w1) trodAll_mk0)), rfl, bel.frame _, fun h => by cases h⟩

theorem over : Rows.wordBlocksRow.holds Try.pinned (OpenSpec.ofChange Rows.wordBlocksSpec) :=
  OpenClaim.holds_of_wide 7 Try.f7 rfl rfl rfl rfl rfl rfl rfl ⟨rfl, rfl, rfl, rfl, rfl⟩ rfl rfl rfl rfl rfl (by kernel_rfl) Try.func7 (by kernel_rfl)
    (of_decide_eq_true (by kernel_rfl)) (by unfold Func.isWrapper; first | (rw [if_pos (by decide +kernel)]; kernel_rfl) | (rw [if_neg (by decide +kernel)]; exact ⟨rfl, rfl⟩))
    (fun os started H enc _ => lifted os started H enc)

theorem proved : Rows.WordBlocksSaid :=
  over
#print axioms proved

end Go.Proofs.Ytebkpcbajheciaa.wordBlocks
