/-
  No two free blocks stand beside each other, whatever was done; the blocks' sizes are the heap. The statement ReleaseMerged; no condition.
-/
import Derived.Test.YtcngmkfpbcemjaaGreatLRek
import Derived.BigQuiet
import Derived.Deep.RegionHeld3
namespace Go.Proofs.YtcngmkfpbcemjaaGreat.releaseMerged
open Go.ChangeShapes Go.WideShapes Go.ChangeAt Go.RowKit
set_option linter.unusedVariables false
set_option linter.unusedSimpArgs false
set_option maxRecDepth 100000

set_option maxHeartbeats 4000000 in
theorem core {w : World} {la : Option Addr} {n c : Nat} {X O A N : Nat → Nat} (hp : DoneAt w la n X O A N) (hn : n ≤ maxLen) :
    Calls Tryz.prog 6 #[.slice la n c] w fun e w' => e = .returned (.bool true) ∧ w.grownBy w' none := by
  have hpl := fun (V : World) (hg : w.grownBy V none) => played11_any (c := c) (hp.later hg) hn
  obtain ⟨bs, hbs⟩ : ∃ bs, (dS X O A N (min n 25)).1 = bs := ⟨_, rfl⟩
  obtain ⟨L, hL⟩ : ∃ L, (dS X O A N (min n 25)).2 = L := ⟨_, rfl⟩
  rw [hbs, hL] at hpl
  clear hbs hL
  obtain ⟨E, hE⟩ : ∃ E : Nat, 4800 = E := ⟨_, rfl⟩
  have hwk : ∀ (V W0 : World) (T : Nat) (R : Option Nat), HW W0 V T R (fmt48 4800) 4800 bs L → Calls Tryz.prog 20 #[.pointer (some ⟨T, 0, none⟩)] V fun e w' => ∃ v, e = .returned (.tuple #[v, .int .i64 0]) ∧ OwnB w' V.heap.size 56 v bs ∧ V.grownBy w' none := fun V W0 T R h => hw_walk h
  go_enter Tryz.func6, Tryz.ntmps6
  go_wp2_with (first
    | (go_at_call 9; ((with_reducible refine (awake11 _).mono ?_); rintro e w1 ⟨rfl, hg1⟩))
    | (go_at_call 10; ((with_reducible refine (hpl _ hg1).mono ?_); rintro e w2 ⟨T, R, v, rfl, H2, V2⟩; obtain ⟨l1, n1, c1, va, ln, vc, hv, hn1⟩ := V2.lie; subst hv; rw [hE]; have ga := World.grownBy_alloc w2 (.cells (hC E l1 n1 c1 va ln vc) 30) none; have hwk2 := hwk _ _ _ _ (H2.later ga); simp only [heapV]))
    | (go_at_call 20; ((with_reducible refine hwk2.mono ?_); rintro e w3 ⟨v3, rfl, O3, hg3⟩)))
  obtain ⟨l3, c3, hv3, hat⟩ := O3.at_
  have h6 := hw_few600 H2
  have hst : Told (fun _ => 0) 0 0 [] 0 ∧ sumB bs bs.length = 1024 ∧ mergedL bs = true ∧ ∀ k, k ≤ bs.length → sumB bs k ≤ 1024 := by
    obtain ⟨h0, M, B, D, l, h1, h2⟩ := H2
    have h3 := sumB_told h2.told
    refine ⟨rfl, ?_, mg_merged h2.merged, fun k hk => (h3 k hk).1⟩
    have := (h3 bs.length (Nat.le_refl _)).2 rfl
    omega
  obtain ⟨_, hs1, hs2, hs3⟩ := hst
  have hmg := fun (V : World) (hg : w3.grownBy V none) => merged_any (c := c3) (hat.later hg) (by omega)
  rw [hs2] at hmg
  obtain ⟨m, hm⟩ : ∃ m, bs.length = m := ⟨_, rfl⟩
  rw [hm] at hv3 hs1 hs3 hmg h6
  subst hv3
  have HM := Lib.hid hm
  have HS1 := Lib.hid hs1
  have HS3 := Lib.hid hs3
  have HAT := Lib.hid hat
  have HG2 := Lib.hid (grown_trans H2.since (grown_trans ga hg3))
  clear hm hs1 hs3 hat O3 hs2 hpl hwk hwk2
  go_wp2
  go_loopw [10, 9] (fun i v wr => ∃ k : Nat, k ≤ m ∧ i = .int .i64 k ∧ v = .int .u64 (sumB bs k : Nat) ∧ wr = w3) (fun i _ _ => m - (intOf i).toNat)
  case atStart => exact ⟨0, Nat.zero_le _, rfl, rfl, rfl⟩
  case round =>
    obtain ⟨k, hk, rfl, rfl, rfl⟩ := hrel
    rcases Nat.lt_or_ge k m with h1 | h1
    · have h1' : (k : Int) < (m : Int) := by omega
      obtain ⟨bb, off, rfl, hbb, hcs⟩ := HAT.out.cells (by rw [HM.out]; omega)
      obtain ⟨_, c1, _, _, _⟩ := hcs k (by rw [HM.out]; exact h1)
      have hnx : sumB bs (k + 1) = sumB bs k + gS bs k := rfl
      have h9 := HS3.out (k + 1) (by omega)
      obtain ⟨x, hx⟩ : ∃ x, gS bs k = x := ⟨_, rfl⟩
      obtain ⟨s, hs⟩ : ∃ s, sumB bs k = s := ⟨_, rfl⟩
      rw [hx] at c1 hnx
      rw [hs] at hnx ⊢
      have ew : IntKind.u64.wrap ((s : Int) + (x : Int)) = ((s + x : Nat) : Int) := by rw [IntKind.wrap_u64]; omega
      rw [← hnx] at ew
      obtain ⟨s2, hs2⟩ : ∃ s2, sumB bs (k + 1) = s2 := ⟨_, rfl⟩
      rw [hs2] at ew
      have HS2 := Lib.hid hs2
      clear hcs hnx h9 hx hs hs2
      go_wp2
      go_roundw
      case rel => exact ⟨k + 1, by omega, by go_num, by rw [HS2.out], trivial⟩
      case measure => simp [intOf]; omega
    · obtain rfl : k = m := by omega
      have hs := HS1.out
      obtain ⟨s, hs'⟩ : ∃ s, sumB bs k = s := ⟨_, rfl⟩
      rw [hs'] at hs ⊢
      subst hs
      clear hs'
      go_wp2_with (first | (go_at_call 21; ((with_reducible refine (hmg _ (grown_refl _ none)).mono ?_); rintro e w4 ⟨rfl, hg4⟩)))
      go_ret
      exact ⟨rfl, grown_trans hg1 (grown_trans HG2.out hg4)⟩
theorem walk {w : World} {la : Option Addr} {n c : Nat} {X O A N : Nat → Nat} (hc : n ≤ c) (hn : n ≤ maxLen) (hp : DoneAt w la n X O A N) :
    Calls Tryz.prog 6 #[.slice la n c] w fun e w' => e = .returned (.bool true) ∧ Below w.heap.size w w' := by
  exact (core hp hn).mono fun e w' ⟨h1, h2⟩ => ⟨h1, grown_below h2⟩
theorem laidOut : laidOutB Tryz.prog = true := by kernel_rfl
/-! ### The row's step: the guide's frame -/
theorem own : ownKnob Tryz.prog.godebug = none := by kernel_rfl
set_option maxRecDepth 100000 in
theorem lifted (os : Os) (started : os.Started) (H : Type) (enc : TypeId × Value → H) :
    ReturnsInHanded {} Tryz.checked os 6 .any (Rows.releaseMergedSpec.pre6 enc Tryz.prog Tryz.f6 Rows.releaseMergedRow.domain false) (Rows.releaseMergedSpec.post enc Tryz.prog Tryz.f6 false true false false) := by
  refine returnsInHanded_of_change (C := Tryz.checked) own started (by kernel_rfl) Tryz.func6
    (ChangeSpec.witness6 (enc := enc) (C := Tryz.checked) false ⟨#[], #[.slice none 0 0], []⟩ 8 (by kernel_rfl) (by kernel_rfl) (by kernel_rfl) (by kernel_rfl)) ?_
  intro W base args ds gs before hval0 hW hcnd _
  have hval : ∀ (j : Nat) t v, Tryz.f6.params[j]? = some t → args[j]? = some v → Value.okWide Tryz.prog W .any base t v := hval0
  have hW' := hW
  obtain ⟨p, q, hA0, hV, rfl, hfz, hnd⟩ := hW
  have hA : DataW.TrodAll enc Tryz.prog W 0 (fun _ => true) true Tryz.f6.params.toList args.toList ds p := hA0
  rw [Tryz.params6] at hA hval
  obtain ⟨v0, vs0, d0, ds0, p0, q0, hargs, rfl, rfl, h0, r0⟩ := trodAll_cons hA
  obtain ⟨rfl, rfl, rfl⟩ := trodAll_nil r0
  obtain rfl : args = #[v0] := by cases args; simp_all
  obtain ⟨rfl, rfl⟩ := trodVars_none hV
  have lt0 : ∀ x ∈ p0, x.block < W.heap.size := by obtain ⟨m, hm⟩ := h0; exact DataW.trod_lt m _ _ _ hm
  obtain ⟨la0, n0, c0, X0, O0, A0, N0, rfl, hc0, hn0, hp0⟩ := open_done (hval 0 22 v0 rfl rfl) h0
  clear hA0 hval0
  refine (walk hc0 hn0 hp0).mono fun e W' ⟨he, bel⟩ => ?_
  subst he
  exact ⟨_, rfl, _, _, _, [], _, [], hW', trodAll_mk1 (shut_bool Tryz.underlying4 _), (trodAll_cons_mk (Below.trod laidOut (by kernel_rfl) (of_decide_eq_true (by kernel_rfl)) h0 bel lt0) trodAll_mk0), rfl, bel.frame _, fun h => by cases h⟩

theorem over : Rows.releaseMergedRow.holds Tryz.pinned (OpenSpec.ofChange Rows.releaseMergedSpec) :=
  OpenClaim.holds_of_wide 6 Tryz.f6 rfl rfl rfl rfl rfl rfl rfl ⟨rfl, rfl, rfl, rfl, rfl⟩ rfl rfl rfl rfl rfl (by kernel_rfl) Tryz.func6 (by kernel_rfl)
    (of_decide_eq_true (by kernel_rfl)) (by unfold Func.isWrapper; first | (rw [if_pos (by decide +kernel)]; kernel_rfl) | (rw [if_neg (by decide +kernel)]; exact ⟨rfl, rfl⟩))
    (fun os started H enc _ => lifted os started H enc)

theorem proved : Rows.ReleaseMergedSaid :=
  over
#print axioms proved


end Go.Proofs.YtcngmkfpbcemjaaGreat.releaseMerged
