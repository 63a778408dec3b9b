/-
  No two clients' words are the same; all stand between the head and the directory. The statement ClientApart, for all clients' numbers, and all numbers; no condition.
-/
import Derived.Test.YtndoedcaoklfgaaCliF
import Derived.Test.YtndoedcaoklfgaaDeedO
import Derived.Test.YtndoedcaoklfgaaPairO
namespace Go.Proofs.Ytndoedcaoklfgaa.clientApart
open Go.ChangeShapes Go.WideShapes Go.ChangeAt Go.RowKit
set_option linter.unusedVariables false
set_option linter.unusedSimpArgs false

/-- where a word stands that there is -/
theorem slot_at {c : Int} {q : Nat} (h : slotP c q) : 64 ≤ slotN c q ∧ slotN c q + 8 ≤ 3392 ∧ slotN c q % 8 = 0 := by
  unfold slotP thereP at h
  unfold slotN
  omega
theorem slot_inj {c d : Int} {q r : Nat} (h : slotP c q) (k : slotP d r) (e : slotN c q = slotN d r) : c = d ∧ q = r := by
  unfold slotP thereP at h k
  unfold slotN at e
  omega
set_option maxRecDepth 100000 in
set_option maxHeartbeats 8000000 in
theorem core (c d : Int) (q r : Nat) (w : World) :
    Calls Try.prog 5 #[.agg #[.int .i64 c, .int .i64 d], .agg #[.int .u64 q, .int .u64 r]] w fun e w' => e = .returned (.bool true) ∧ w.grownBy w' none := by
  have h1 := fun w => cword_any c q w
  have h2 := fun w => cword_any d r w
  have hg0 : w.grownBy ((w.alloc (.cells #[.int .i64 c, .int .i64 d] 51)).alloc (.cells #[.int .u64 q, .int .u64 r] 52)) none := grown_trans (World.grownBy_alloc _ _ _) (World.grownBy_alloc _ _ _)
  by_cases hs : slotP c q
  · by_cases hk : slotP d r
    · obtain ⟨p1, p2, p3⟩ := slot_at hs
      have hinj := slot_inj hs hk
      unfold wordN at h1 h2
      rw [if_pos hs, decide_eq_true hs] at h1
      rw [if_pos hk, decide_eq_true hk] at h2
      obtain ⟨n, hn⟩ : ∃ n, slotN c q = n := ⟨_, rfl⟩
      obtain ⟨m, hm⟩ : ∃ m, slotN d r = m := ⟨_, rfl⟩
      rw [hn] at h1 hinj p1 p2 p3
      rw [hm] at h2 hinj
      have e1 : (64 : Int) ≤ (n : Int) := by omega
      have e2 : IntKind.u64.wrap ((n : Int) + 8) = (n + 8 : Nat) := by rw [IntKind.wrap_u64]; omega
      obtain ⟨n8, hn8⟩ : ∃ x, n + 8 = x := ⟨_, rfl⟩
      rw [hn8] at e2 p2
      have e3 : (n8 : Int) ≤ 3392 := by omega
      have h64 : (n : Int) < 18446744073709551616 := by omega
      have HN8 := Lib.hid hn8
      clear hn8
      have e4 : (n : Int) % 8 = 0 := by omega
      by_cases he : c = d ∧ q = r
      · obtain ⟨rfl, rfl⟩ := he
        obtain rfl : n = m := by rw [← hn, ← hm]
        clear hinj hn hm hs hk p1 p2 p3
        go_enter Try.func5, Try.ntmps5
        go_wp2_with (first | (go_at_call 9; ((with_reducible refine (awake8 _).mono ?_); rintro e w1 ⟨rfl, hg1⟩; obtain ⟨k1, k2⟩ := txs_first hg1; obtain ⟨c1, c2, _, _⟩ := tx_cells k1; obtain ⟨c3, c4, _, _⟩ := tx_cells k2)) | (go_at_call 22; ((with_reducible refine (h1 _).mono ?_); rintro e w2 ⟨rfl, rfl⟩)))
        go_ret
        exact ⟨ret_bool' (by simp), grown_trans hg0 hg1⟩
      · have hne : ¬ (n : Int) = (m : Int) := fun e => he (hinj (by omega))
        clear hinj hn hm hs hk p1 p2 p3
        by_cases hc : c = d
        · subst hc
          have hq : ((q : Int) == (r : Int)) = false := by rw [beq_eq_false_iff_ne]; exact fun e => he ⟨rfl, by omega⟩
          have hb : ((n : Int) == (m : Int)) = false := by rw [beq_eq_false_iff_ne]; exact hne
          have HE := Lib.hid hne
          clear hne he
          go_enter Try.func5, Try.ntmps5
          go_wp2_with (first | (go_at_call 9; ((with_reducible refine (awake8 _).mono ?_); rintro e w1 ⟨rfl, hg1⟩; obtain ⟨k1, k2⟩ := txs_first hg1; obtain ⟨c1, c2, _, _⟩ := tx_cells k1; obtain ⟨c3, c4, _, _⟩ := tx_cells k2)) | (go_at_call 22; ((with_reducible refine (h1 _).mono ?_); rintro e w2 ⟨rfl, rfl⟩)) | (go_at_call 22; ((with_reducible refine (h2 _).mono ?_); rintro e w3 ⟨rfl, rfl⟩)))
          go_ret
          exact ⟨ret_bool' (by simp), grown_trans hg0 hg1⟩
        · go_enter Try.func5, Try.ntmps5
          go_wp2_with (first | (go_at_call 9; ((with_reducible refine (awake8 _).mono ?_); rintro e w1 ⟨rfl, hg1⟩; obtain ⟨k1, k2⟩ := txs_first hg1; obtain ⟨c1, c2, _, _⟩ := tx_cells k1; obtain ⟨c3, c4, _, _⟩ := tx_cells k2)) | (go_at_call 22; ((with_reducible refine (h1 _).mono ?_); rintro e w2 ⟨rfl, rfl⟩)) | (go_at_call 22; ((with_reducible refine (h2 _).mono ?_); rintro e w3 ⟨rfl, rfl⟩)))
          go_ret
          exact ⟨ret_bool' (by simp [hne]), grown_trans hg0 hg1⟩
    · rw [decide_eq_true hs] at h1
      rw [decide_eq_false hk] at h2
      obtain ⟨n, hn⟩ : ∃ n, wordN c q = n := ⟨_, rfl⟩
      obtain ⟨m, hm⟩ : ∃ m, wordN d r = m := ⟨_, rfl⟩
      rw [hn] at h1
      rw [hm] at h2
      clear hn hm hs hk
      go_enter Try.func5, Try.ntmps5
      go_wp2_with (first | (go_at_call 9; ((with_reducible refine (awake8 _).mono ?_); rintro e w1 ⟨rfl, hg1⟩; obtain ⟨k1, k2⟩ := txs_first hg1; obtain ⟨c1, c2, _, _⟩ := tx_cells k1; obtain ⟨c3, c4, _, _⟩ := tx_cells k2)) | (go_at_call 22; ((with_reducible refine (h1 _).mono ?_); rintro e w2 ⟨rfl, rfl⟩)) | (go_at_call 22; ((with_reducible refine (h2 _).mono ?_); rintro e w3 ⟨rfl, rfl⟩)))
      go_ret
      exact ⟨rfl, grown_trans hg0 hg1⟩
  · rw [decide_eq_false hs] at h1
    obtain ⟨b, hb⟩ : ∃ b, decide (slotP d r) = b := ⟨_, rfl⟩
    obtain ⟨n, hn⟩ : ∃ n, wordN c q = n := ⟨_, rfl⟩
    obtain ⟨m, hm⟩ : ∃ m, wordN d r = m := ⟨_, rfl⟩
    rw [hn] at h1
    rw [hm, hb] at h2
    clear hn hm hs hb
    go_enter Try.func5, Try.ntmps5
    go_wp2_with (first | (go_at_call 9; ((with_reducible refine (awake8 _).mono ?_); rintro e w1 ⟨rfl, hg1⟩; obtain ⟨k1, k2⟩ := txs_first hg1; obtain ⟨c1, c2, _, _⟩ := tx_cells k1; obtain ⟨c3, c4, _, _⟩ := tx_cells k2)) | (go_at_call 22; ((with_reducible refine (h1 _).mono ?_); rintro e w2 ⟨rfl, rfl⟩)) | (go_at_call 22; ((with_reducible refine (h2 _).mono ?_); rintro e w3 ⟨rfl, rfl⟩)))
    go_ret
    exact ⟨rfl, grown_trans hg0 hg1⟩
theorem walk (a b : Int) (_ : (Lit.int .i64 a).wf = true) (_ : (Lit.int .i64 b).wf = true) (x y : Int) (wx : (Lit.int .u64 x).wf = true) (wy : (Lit.int .u64 y).wf = true) (w : World) :
    Calls Try.prog 5 #[.agg #[.int .i64 a, .int .i64 b], .agg #[.int .u64 x, .int .u64 y]] w fun e w' => e = .returned (.bool true) ∧ Below w.heap.size w w' := by
  have b0 := bounds_u64 wx
  have b1 := bounds_u64 wy
  obtain ⟨n, rfl⟩ := Int.eq_ofNat_of_zero_le b0.1
  obtain ⟨m, rfl⟩ := Int.eq_ofNat_of_zero_le b1.1
  exact (core a b n m w).mono fun e w' ⟨h1, h2⟩ => ⟨h1, grown_below h2⟩

theorem laidOut : laidOutB Try.prog = true := by kernel_rfl
/-! ### The row's step: the guide's frame -/
theorem own : ownKnob Try.prog.godebug = none := by kernel_rfl
set_option maxRecDepth 100000 in
theorem lifted (os : Os) (started : os.Started) (H : Type) (enc : TypeId × Value → H) :
    ReturnsInHanded {} Try.checked os 5 .any (Rows.clientApartSpec.pre6 enc Try.prog Try.f5 Rows.clientApartRow.domain false) (Rows.clientApartSpec.post enc Try.prog Try.f5 false true false false) := by
  refine returnsInHanded_of_change (C := Try.checked) own started (by kernel_rfl) Try.func5
    (ChangeSpec.witness6 (enc := enc) (C := Try.checked) false ⟨#[], #[.agg #[.int .i64 0, .int .i64 0], .agg #[.int .u64 0, .int .u64 0]], []⟩ 8 (by kernel_rfl) (by kernel_rfl) (by kernel_rfl) (by kernel_rfl)) ?_
  intro W base args ds gs before hval0 hW hcnd _
  have hval : ∀ (j : Nat) t v, Try.f5.params[j]? = some t → args[j]? = some v → Value.okWide Try.prog W .any base t v := hval0
  have hW' := hW
  obtain ⟨p, q, hA0, hV, rfl, hfz, hnd⟩ := hW
  have hA : DataW.TrodAll enc Try.prog W 0 (fun _ => true) true Try.f5.params.toList args.toList ds p := hA0
  rw [Try.params5] at hA hval
  obtain ⟨v0, vs0, d0, ds0, p0, q0, hargs, rfl, rfl, h0, r0⟩ := trodAll_cons hA
  obtain ⟨v1, vs1, d1, ds1, p1, q1, rfl, rfl, rfl, h1, r1⟩ := trodAll_cons r0
  obtain ⟨rfl, rfl, rfl⟩ := trodAll_nil r1
  obtain rfl : args = #[v0, v1] := by cases args; simp_all
  obtain ⟨rfl, rfl⟩ := trodVars_none hV
  have lt0 : ∀ x ∈ p0, x.block < W.heap.size := by obtain ⟨m, hm⟩ := h0; exact DataW.trod_lt m _ _ _ hm
  obtain ⟨x0, y0, rfl, hx0, hy0⟩ := open_ipair (hval 0 51 v0 rfl rfl) h0
  have lt1 : ∀ x ∈ p1, x.block < W.heap.size := by obtain ⟨m, hm⟩ := h1; exact DataW.trod_lt m _ _ _ hm
  obtain ⟨x1, y1, rfl, hx1, hy1⟩ := open_pair (hval 1 52 v1 rfl rfl) h1
  clear hA0 hval0
  refine (walk x0 y0 hx0 hy0 x1 y1 hx1 hy1 W).mono fun e W' ⟨he, bel⟩ => ?_
  subst he
  exact ⟨_, rfl, _, _, _, [], _, [], hW', trodAll_mk1 (shut_bool Try.underlying4 _), (trodAll_cons_mk (Below.trod laidOut (by kernel_rfl) (of_decide_eq_true (by kernel_rfl)) h0 bel lt0) (trodAll_cons_mk (Below.trod laidOut (by kernel_rfl) (of_decide_eq_true (by kernel_rfl)) h1 bel lt1) trodAll_mk0)), rfl, bel.frame _, fun h => by cases h⟩

theorem over : Rows.clientApartRow.holds Try.pinned (OpenSpec.ofChange Rows.clientApartSpec) :=
  OpenClaim.holds_of_wide 5 Try.f5 rfl rfl rfl rfl rfl rfl rfl ⟨rfl, rfl, rfl, rfl, rfl⟩ rfl rfl rfl rfl rfl (by kernel_rfl) Try.func5 (by kernel_rfl)
    (of_decide_eq_true (by kernel_rfl)) (by unfold Func.isWrapper; first | (rw [if_pos (by decide +kernel)]; kernel_rfl) | (rw [if_neg (by decide +kernel)]; exact ⟨rfl, rfl⟩))
    (fun os started H enc _ => lifted os started H enc)

theorem proved : Rows.ClientApartSaid :=
  over
#print axioms proved


end Go.Proofs.Ytndoedcaoklfgaa.clientApart
