/-
  A segment of 4800 bytes, formatted, and a Tx over it: what the statements of layer 4 begin with.
  No condition.
-/
import Derived.Test.YtkpopaadkfgjaaaHeadF
import Derived.Test.YtkpopaadkfgjaaaTxX
namespace Go.Proofs.Ytkpopaadkfgjaaa
open Go.RowKit
set_option linter.unusedVariables false
set_option linter.unusedSimpArgs false

theorem new48 (w : World) : Calls Try.prog 22 #[.int .u64 4800] w fun e w' => e = .returned (.pointer (some ⟨w.heap.size + 1, 0, none⟩)) ∧ w.grownBy w' none ∧ IsSeg w' (w.heap.size + 1) w.heap.size (List.replicate 600 0) := new_yes 600 (by decide) (by decide) w
theorem len48 (n : Nat) : (fmt (List.replicate 600 0) n).length = 600 := by rw [fmt_len, List.length_replicate]
theorem format48 {w : World} {B D n : Nat} (hs : IsSeg w B D (List.replicate 600 0)) (h : fitsP n 4800) : Calls Try.prog 23 #[.pointer (some ⟨B, 0, none⟩), .int .u64 n] w fun e w' => e = .returned (.int .i64 0) ∧ w.grownBy w' (some D) ∧ IsSeg w' B D (fmtW 600 n) := by
  have hf : fitsP n (8 * (List.replicate 600 0).length) := by rw [List.length_replicate]; exact h
  refine (format_any hs n (by have := h.2.2; omega)).mono ?_
  rintro e w' ⟨rfl, hg, hs'⟩
  rw [(fmt_yes hf).1, List.length_replicate] at hs'
  rw [(fmt_yes hf).2]
  exact ⟨rfl, hg, hs'⟩
section
variable {n : Nat}
theorem fmt48_0 (h : fitsP n 4800) : getW (fmtW 600 n) 0 = 7161130718081542961 := by
  have := h.2.1
  rw [getW_fmt (K := 600) h]; simp; omega
theorem fmt48_8 (h : fitsP n 4800) : getW (fmtW 600 n) 8 = 1 := by
  have := h.2.1
  rw [getW_fmt (K := 600) h]; simp; omega
theorem fmt48_16 (h : fitsP n 4800) : getW (fmtW 600 n) 16 = n := by
  have := h.2.1
  rw [getW_fmt (K := 600) h]; simp; omega
theorem fmt48_40 (h : fitsP n 4800) : getW (fmtW 600 n) 40 = sumN n := by
  have := h.2.1
  rw [getW_fmt (K := 600) h]; simp; omega
end
/-- a new Tx over a segment that is newer than w0 -/
theorem Txs.first {w0 w1 w2 w3 : World} {ws ws' : List Nat} (hg1 : w0.grownBy w1 none) (hg2 : w1.grownBy w2 none) (hs : IsSeg w2 (w1.heap.size + 1) w1.heap.size ws) {w2' : World} (hg2' : w2.grownBy w2' (some w1.heap.size)) (hg3 : w2'.grownBy w3 none)
    (ht : Thinks w3 (w2'.heap.size + 1) w2'.heap.size none (w1.heap.size + 1) w1.heap.size ws' []) : Txs w0 w3 (w2'.heap.size + 1) w2'.heap.size none (w1.heap.size + 1) w1.heap.size ws' [] := by
  have h1 := hg1.size
  have h2 := hg2.size
  have h3 := hg2'.size
  refine ⟨ht, grown_trans hg1 (grown_trans (grown_new (grown_trans (grown_any hg2 _) hg2') (Nat.le_refl _)) hg3), by omega, by omega, (fun g hg => by cases hg), by omega, by omega⟩
theorem xor_inj (c a b : Nat) (h : c ^^^ a = c ^^^ b) : a = b := by
  have h2 : c ^^^ (c ^^^ a) = c ^^^ (c ^^^ b) := by rw [h]
  rwa [← Nat.xor_assoc, ← Nat.xor_assoc, Nat.xor_self, Nat.zero_xor, Nat.zero_xor] at h2
theorem mul_inj (x y C D M : Nat) (h1 : (C * D) % M = 1 % M) (hx : x < M) (hy : y < M) (h : (x * C) % M = (y * C) % M) : x = y := by
  have key : ∀ z, z < M → (z * C * D) % M = z := by
    intro z hz
    rw [Nat.mul_assoc, Nat.mul_mod, h1, ← Nat.mul_mod, Nat.mul_one, Nat.mod_eq_of_lt hz]
  have h2 : (x * C * D) % M = (y * C * D) % M := by rw [Nat.mul_mod (x * C), h, ← Nat.mul_mod]
  rw [← key x hx, ← key y hy, h2]
theorem sumN_inj {a b : Nat} (ha : a < 18446744073709551616) (hb : b < 18446744073709551616) (h : sumN a = sumN b) : a = b := by
  unfold sumN at h
  have h64 : (18446744073709551616 : Nat) = 2 ^ 64 := by decide
  have hx : 7161130718081542961 ^^^ a < 18446744073709551616 := by rw [h64]; exact Nat.xor_lt_two_pow (by decide) (by rwa [← h64])
  have hy : 7161130718081542961 ^^^ b < 18446744073709551616 := by rw [h64]; exact Nat.xor_lt_two_pow (by decide) (by rwa [← h64])
  exact xor_inj _ _ _ (mul_inj _ _ 11400714819323198485 17428512612931826493 18446744073709551616 (by decide +kernel) hx hy h)
theorem sum_beq (a b : Nat) (ha : a < 18446744073709551616) (hb : b < 18446744073709551616) : ((sumN a : Int) == (sumN b : Int)) = ((a : Int) == (b : Int)) := by
  rw [Bool.eq_iff_iff]
  simp only [beq_iff_eq]
  refine ⟨fun h => ?_, fun h => ?_⟩
  · have := sumN_inj ha hb (by omega)
    omega
  · have e : a = b := by omega
    rw [e]
/-! ### Two over one segment -/
/-- t was there in wm; u was made behind it, over the same segment: all its blocks are newer. -/
structure Beside (w0 wm w : World) (T M : Nat) (R : Option Nat) (B D : Nat) (ws : List Nat) (l : List (Nat × Nat)) (T' M' : Nat) (R' : Option Nat) (l' : List (Nat × Nat)) : Prop where
  t : Txs w0 w T M R B D ws l
  t0 : Thinks wm T M R B D ws l
  sz : w0.heap.size ≤ wm.heap.size
  sz2 : wm.heap.size ≤ w.heap.size
  u : Thinks w T' M' R' B D ws l'
  new : ∀ k, foot T' M' R' k → wm.heap.size ≤ k
section
variable {w0 wm w w' : World} {T M : Nat} {R : Option Nat} {B D : Nat} {ws : List Nat} {l : List (Nat × Nat)} {T' M' : Nat} {R' : Option Nat} {l' l2 : List (Nat × Nat)}
theorem Beside.first (h : Txs w0 wm T M R B D ws l) (hg : wm.grownBy w none) (hu : Thinks w (wm.heap.size + 1) wm.heap.size none B D ws []) : Beside w0 wm w T M R B D ws l (wm.heap.size + 1) wm.heap.size none [] where
  t := h.later hg
  t0 := h.tx
  sz := h.since.size
  sz2 := hg.size
  u := hu
  new := fun k hk => by
    rcases hk with rfl | rfl | hk
    · omega
    · omega
    · cases hk
theorem Beside.later (h : Beside w0 wm w T M R B D ws l T' M' R' l') (hg : w.grownBy w' none) : Beside w0 wm w' T M R B D ws l T' M' R' l' :=
  ⟨h.t.later hg, h.t0, h.sz, Nat.le_trans h.sz2 hg.size, h.u.later hg, h.new⟩
theorem Beside.step (h : Beside w0 wm w T M R B D ws l T' M' R' l') (ht : Thought w T' M' R' B D ws l2 w') : ∃ R2, Beside w0 wm w' T M R B D ws l T' M' R2 l2 := by
  obtain ⟨R2, h1, h2, h3⟩ := ht
  have hB := h.t0.seg.ltB
  have hD := h.t0.seg.ltD
  have ht' : Thinks w' T M R B D ws l := h.t.tx.turned h2 (fun k hk => by
    have := h.new k hk
    exact ⟨fun hf => by have := h.t0.foot_lt hf; omega, by omega, by omega⟩)
  refine ⟨R2, ⟨ht', ?_, h.t.newT, h.t.newM, h.t.newR, h.t.newB, h.t.newD⟩, h.t0, h.sz, Nat.le_trans h.sz2 h2.size, h1, ?_⟩
  · exact ((Turned.of_none h.t.since (foot T' M' R')).trans h2 (fun i hi => .inl hi)).grown (fun i hi => Nat.le_trans h.sz (h.new i hi))
  · intro k hk
    rcases foot_new h3 hk with hk | hk
    · exact h.new k hk
    · exact Nat.le_trans h.sz2 hk
end
end Go.Proofs.Ytkpopaadkfgjaaa
