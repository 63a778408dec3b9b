/-
  Both Fits, and both Takes, in one: of whatever numbers, over a Tx whose words tell a heap and that heap's value.
  Conditions: the numbers are of their own kinds.
-/
import Derived.Test.YtoamlkljfmgomaaGreatCarAa
namespace Go.Proofs.YtoamlkljfmgomaaGreat
open Go.RowKit
set_option linter.unusedVariables false
set_option linter.unusedSimpArgs false
set_option maxRecDepth 100000

section
variable {w0 w : World} {T : Nat} {R : Option Nat} {ws : List Nat} {E n a base : Nat} {bs : List Blk} {L : Nat → List Nat} {v : Value}
theorem fitErr_cases (bs : List Blk) (n a : Nat) : (∃ i, alignP a ∧ n ≤ 18446744073709551560 ∧ fitM bs n a = some i) ∨ 0 < fitErr bs n a := by
  by_cases hA : alignP a
  · by_cases hN : 18446744073709551560 < n
    · rw [fitErr_size hA hN]; exact .inr (by decide)
    · cases hf : fitM bs n a with
      | some i => exact .inl ⟨i, hA, by omega, rfl⟩
      | none => rw [fitErr_none hA (by omega) hf]; exact .inr (by decide)
  · rw [fitErr_arg hA]; exact .inr (by decide)
theorem rfit_bad (h : HvIs w base v E bs L) (hlen : bs.length ≤ 1000) (hbd : Bounds bs) (hn : n < 18446744073709551616) (ha : a < 18446744073709551616) {e : Nat} (he : fitErr bs n a = e) (hp : 0 < e) :
    Calls Tryz.prog 12 #[v, .int .u64 n, .int .u64 a] w fun x w' => x = .returned (.tuple #[.int .i64 0, .int .u64 0, .int .u64 0, .int .i64 (e : Nat)]) ∧ w.grownBy w' none := by
  subst he
  by_cases hA : alignP a
  · by_cases hN : 18446744073709551560 < n
    · rw [fitErr_size hA hN]
      obtain ⟨b, vs, rfl, _, _⟩ := h.is
      exact rfit10_size hA hN hn E b vs w
    · cases hf : fitM bs n a with
      | some i => rw [fitErr_some hA (by omega) hf] at hp; cases hp
      | none =>
        rw [fitErr_none hA (by omega) hf]
        have := rfit10_any h hlen hbd hA (by omega : n ≤ 18446744073709551560)
        rwa [hf] at this
  · rw [fitErr_arg hA]
    obtain ⟨b, vs, rfl, _, _⟩ := h.is
    exact rfit10_arg ha hA E n b vs w
theorem both_fit (bs : List Blk) (hn : n < 18446744073709551616) (ha : a < 18446744073709551616) :
    ∃ i x y z e : Nat, (∀ (w0 w : World) (T : Nat) (R : Option Nat) (L : Nat → List Nat), HW w0 w T R (fmt48 4800) 4800 bs L → Calls Tryz.prog 11 #[.pointer (some ⟨T, 0, none⟩), .int .u64 n, .int .u64 a] w fun e' w' => e' = .returned (.tuple #[.agg #[.int .u64 (x : Nat), .int .u64 (y : Nat), .int .u64 (z : Nat)], .int .i64 (e : Nat)]) ∧ w.grownBy w' none) ∧
      (∀ (w0 w : World) (T : Nat) (R : Option Nat) (L : Nat → List Nat) (base : Nat) (v : Value), HW w0 w T R (fmt48 4800) 4800 bs L → HvK w R base v 4800 bs L → Calls Tryz.prog 12 #[v, .int .u64 n, .int .u64 a] w fun e' w' => e' = .returned (.tuple #[.int .i64 (i : Nat), .int .u64 (y : Nat), .int .u64 (z : Nat), .int .i64 (e : Nat)]) ∧ w.grownBy w' none) ∧
      ((e = 0 ∧ i < bs.length ∧ x = gO bs i) ∨ (0 < e ∧ x = 0 ∧ y = 0 ∧ z = 0)) := by
  rcases fitErr_cases bs n a with ⟨i, hA, hN, hf⟩ | hp
  · refine ⟨i, gO bs i, padN (gO bs i) a, needOf n, 0, fun w0 w T R L h => hw_fit_ok h hA hN hf, fun w0 w T R L base v h hv => ?_, .inl ⟨rfl, (fitM_is hf).1, rfl⟩⟩
    have h6 := hw_few600 h
    have := rfit10_any hv.is (by omega) (hw_bounds h) hA hN
    rw [hf] at this
    exact this
  · exact ⟨0, 0, 0, 0, fitErr bs n a, fun w0 w T R L h => hw_fit_bad h hn ha rfl hp, fun w0 w T R L base v h hv => rfit_bad hv.is (by have := hw_few600 h; omega) (hw_bounds h) hn ha rfl hp, .inr ⟨hp, rfl, rfl, rfl⟩⟩
theorem both_take (bs : List Blk) (L : Nat → List Nat) (hn : n < 18446744073709551616) (ha : a < 18446744073709551616) (owner : Int) :
    ∃ (p e : Nat) (bs' : List Blk) (L' : Nat → List Nat), (∀ (w0 w : World) (T : Nat) (R : Option Nat), HW w0 w T R (fmt48 4800) 4800 bs L → Calls Tryz.prog 14 #[.pointer (some ⟨T, 0, none⟩), .int .i64 owner, .int .u64 n, .int .u64 a] w fun e' w' => e' = .returned (.tuple #[.int .u64 (p : Nat), .int .i64 (e : Nat)]) ∧ ∃ R', HW w0 w' T R' (fmt48 4800) 4800 bs' L' ∧ Keep w R w' R') ∧
      (∀ (w0 w : World) (T : Nat) (R : Option Nat) (V : World) (R0 : Option Nat) (base : Nat) (v : Value), HW w0 w T R (fmt48 4800) 4800 bs L → (∀ g, R0 = some g → g < V.heap.size) → HvK V R0 base v 4800 bs L → base ≤ V.heap.size → Calls Tryz.prog 15 #[v, .int .i64 owner, .int .u64 n, .int .u64 a] V fun e' w' => ∃ v', e' = .returned (.tuple #[v', .int .u64 (p : Nat), .int .i64 (e : Nat)]) ∧ HvK w' R0 base v' 4800 bs' L' ∧ V.grownBy w' none) := by
  by_cases ho : owner < 0 ∨ 8 < owner
  · refine ⟨0, 1, bs, L, fun w0 w T R h => (hw_take_who _ n a ho w).mono ?_, fun w0 w T R V R0 base v h h1 hv hb => (rtake10_who hv.is n a ho).mono ?_⟩
    · rintro e w' ⟨rfl, hg⟩
      exact ⟨rfl, R, h.later hg, Keep.of_grown hg⟩
    · rintro e w' ⟨rfl, hg⟩
      exact ⟨v, rfl, hv.later hg, hg⟩
  · obtain ⟨o, rfl⟩ := Int.eq_ofNat_of_zero_le (show 0 ≤ owner by omega)
    rcases fitErr_cases bs n a with ⟨i, hA, hN, hf⟩ | hp
    · exact ⟨_, _, _, _, fun w0 w T R h => tk_code (owner := o) h hA hN (by omega), fun w0 w T R V R0 base v h h1 hv hb => tk_ref (owner := o) h h1 hv hb hA hN (by omega)⟩
    · refine ⟨0, fitErr bs n a, bs, L, fun w0 w T R h => (hw_take_bad h hn ha (by omega) (by omega) rfl hp).mono ?_, fun w0 w T R V R0 base v h h1 hv hb => (rtake10_bad hv.is (by have := hw_few600 h; omega) (hw_bounds h) hn ha (by omega) (by omega) rfl hp).mono ?_⟩
      · rintro e w' ⟨rfl, hg⟩
        exact ⟨rfl, R, h.later hg, Keep.of_grown hg⟩
      · rintro e w' ⟨rfl, hg⟩
        exact ⟨v, rfl, hv.later hg, hg⟩
end
end Go.Proofs.YtoamlkljfmgomaaGreat
