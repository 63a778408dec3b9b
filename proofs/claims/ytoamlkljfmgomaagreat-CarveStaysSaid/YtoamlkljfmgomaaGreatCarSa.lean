/-
  Package carve: the contract of Fit where too many bytes are asked for.
  No condition but the numbers' own.
-/
import Derived.Test.YtoamlkljfmgomaaGreatCarP
namespace Go.Proofs.YtoamlkljfmgomaaGreat
open Go.RowKit Go.Shelf
set_option linter.unusedVariables false
set_option linter.unusedSimpArgs false
set_option maxRecDepth 100000
attribute [local go_sem] Oper.semAt_some

set_option maxHeartbeats 4000000 in
theorem cfit_size {n a : Nat} (ha : alignP a) (hn : 18446744073709551560 < n) (hn64 : n < 18446744073709551616) (p : Option Addr) (w : World) :
    Calls Tryz.prog 11 #[.pointer p, .int .u64 n, .int .u64 a] w fun e w' => e = .returned (.tuple #[.agg #[.int .u64 0, .int .u64 0, .int .u64 0], .int .i64 2]) ∧ w.grownBy w' none := by
  refine (callsIn_wide (n := 6)).1 ?_
  have hal := ha.le
  have h1 := (ones_align (by omega) hal.1 hal.2.1).2 ha
  have hon : ∀ V, CallsIn Fence.wide 5 Tryz.prog 24 #[.int .u64 a] V _ := fun V => (callsIn_wide (n := 5)).2 (ones_any a (by omega) V)
  have hne : ∀ V, CallsIn Fence.wide 5 Tryz.prog 25 #[.int .u64 n] V _ := fun V => (callsIn_wide (n := 5)).2 (need_high n hn64 (by omega) V)
  have hb : (onesOf (a : Int) != 1) = false := by rw [h1]; rfl
  have hb' : ¬ onesOf (a : Int) ≠ 1 := fun h => h h1
  have h16 : ¬ (a : Int) < 16 := by omega
  have h4 : ¬ 4096 < (a : Int) := by omega
  refine callsIn_of_wp_marks Tryz.func11 rfl trivial ?_ rfl
  simp only [Tryz.ntmps11, List.size_toArray, List.length_cons, List.length_nil, Nat.reduceAdd, Nat.reduceSub, Array.replicate_succ, Array.replicate_zero, List.push_toArray, List.append_toArray, List.nil_append, List.cons_append]
  gi_wp2_with (first | (refine ⟨trivial, ?_⟩; gi_at_call 24; (with_reducible refine (hon _).mono ?_); rintro e w1 ⟨rfl, rfl⟩) | (refine ⟨trivial, ?_⟩; gi_at_call 25; (with_reducible refine (hne _).mono ?_); rintro e w1 ⟨rfl, rfl⟩))
  obtain ⟨b0, b1, b2, hg⟩ := fit_box w (.int .u64 a) (.int .u64 0) (.int .u64 0) (.int .u64 0) (.int .i64 2) 23 34 35
  obtain ⟨W, hW⟩ : ∃ W, ((w.alloc (.cells #[.int .u64 a] 23)).alloc (.cells #[.int .u64 0, .int .u64 0, .int .u64 0] 34)).alloc (.cells #[.int .i64 2] 35) = W := ⟨_, rfl⟩
  rw [hW] at b0 b1 b2 hg ⊢
  have hga := World.grownBy_alloc W (.cells #[.int .u64 0] 23) none
  obtain ⟨c0, c1, c2⟩ := tag_cells ((hga.block _ (lt_of_block b1) (by simp)).trans b1)
  have c3 := cell_of_one ((hga.block _ (lt_of_block b2) (by simp)).trans b2)
  refine ⟨.tuple #[.agg #[.int .u64 0, .int .u64 0, .int .u64 0], .int .i64 2], ?_, rfl, grown_trans hg hga⟩
  simp [results, Tryz.results11, go_sem, c0, c1, c2, c3]
end Go.Proofs.YtoamlkljfmgomaaGreat
