/-
  Ranks, and what of a tree's words stays where another block's sons, or the root, are stored.
  No condition.
-/
import Derived.Test.YthhboidjibdahaaGreatTreeL
import Derived.Test.YthhboidjibdahaaGreatTreeK
namespace Go.Proofs.YthhboidjibdahaaGreat
open Go.RowKit
set_option linter.unusedVariables false
set_option linter.unusedSimpArgs false

theorem rk_inj_of (a b C D M : Int) (h1 : (C * D) % M = 1 % M) (ha : a % M = a) (hb : b % M = b) (h : (a * C) % M = (b * C) % M) : a = b := by
  have h2 : (a * C * D) % M = (b * C * D) % M := by rw [Int.mul_emod (a * C), h, ← Int.mul_emod]
  have key : ∀ x : Int, x % M = x → (x * C * D) % M = x := by
    intro x hx
    rw [Int.mul_assoc, Int.mul_emod, h1, ← Int.mul_emod, Int.mul_one, hx]
  rw [← key a ha, ← key b hb, h2]
theorem nat_u64 (x : Nat) (hx : x < 18446744073709551616) : (x : Int) % 18446744073709551616 = x := Int.emod_eq_of_lt (by omega) (by omega)
theorem wrap_nat (y : Int) : IntKind.u64.wrap y = ((IntKind.u64.wrap y).toNat : Nat) := by rw [IntKind.wrap_u64]; omega
/-- a block's rank -/
def rkN (x : Nat) : Nat := (IntKind.u64.wrap ((x : Int) * 11400714819323198485)).toNat
theorem rkN_wrap (x : Nat) : IntKind.u64.wrap ((x : Int) * 11400714819323198485) = (rkN x : Nat) := wrap_nat _
theorem rkN_inj {x y : Nat} (hx : x < 18446744073709551616) (hy : y < 18446744073709551616) (h : rkN x = rkN y) : x = y := by
  have h2 : IntKind.u64.wrap ((x : Int) * 11400714819323198485) = IntKind.u64.wrap ((y : Int) * 11400714819323198485) := by rw [rkN_wrap, rkN_wrap, h]
  simp only [IntKind.wrap_u64] at h2
  exact Int.ofNat.inj (rk_inj_of x y 11400714819323198485 17428512612931826493 18446744073709551616 (by decide +kernel) (nat_u64 x hx) (nat_u64 y hy) h2)
section
variable {f g rk : Nat → Nat} {F l : List Nat} {r x y : Nat}
theorem FreeL.sons (h : FreeL F) (hx : x ∈ F) {n : Nat} : stands (fmt48 n) x ∧ stands (fmt48 n) (x + 8) ∧ stands (fmt48 n) (x + 16) ∧ x < 18446744073709551616 := by
  obtain ⟨h1, h2, h3⟩ := h.on x hx
  exact ⟨stands48 (by omega) (by omega), stands48 (by omega) (by omega), stands48 (by omega) (by omega), by omega⟩
/-- another block's sons, and the root, are no first word of a block, and no son of it -/
theorem FreeL.else_ (h : FreeL F) (hx : x ∈ F) (hy : y ∈ F) (hg : ∀ k, k ≠ y + 8 → k ≠ y + 16 → k ≠ 32 → g k = f k) : g x = f x ∧ (x ≠ y → g (x + 8) = f (x + 8) ∧ g (x + 16) = f (x + 16)) := by
  obtain ⟨h1, h2, h3⟩ := h.on x hx
  obtain ⟨k1, k2, k3⟩ := h.on y hy
  have hne : x ≠ y + 16 := fun e => by
    rcases h.far hx hy (by omega) with h4 | h4 <;> omega
  refine ⟨hg x (by omega) hne (by omega), fun hn => ?_⟩
  have hf := h.far hx hy hn
  exact ⟨hg _ (by omega) (by omega) (by omega), hg _ (by omega) (by omega) (by omega)⟩
theorem TreeOf.past (h : TreeOf f rk r l) (hF : FreeL F) (hl : ∀ x, x ∈ l → x ∈ F) (hy : y ∈ F) (hn : y ∉ l) (hg : ∀ k, k ≠ y + 8 → k ≠ y + 16 → k ≠ 32 → g k = f k) : TreeOf g rk r l :=
  h.frame fun x hx => (hF.else_ (hl x hx) hy hg).2 fun e => hn (e ▸ hx)
/-- the root alone is stored -/
theorem TreeOf.planted (h : TreeOf f rk r l) (hF : FreeL F) (hl : ∀ x, x ∈ l → x ∈ F) (hg : ∀ k, k ≠ 32 → g k = f k) : TreeOf g rk r l :=
  h.frame fun x hx => by
    obtain ⟨h1, h2, h3⟩ := hF.on x (hl x hx)
    exact ⟨hg _ (by omega), hg _ (by omega)⟩
/-- The words say the tree of the blocks l, by their keys; F: where blocks may stand. -/
structure TreeIs (f z : Nat → Nat) (F l : List Nat) : Prop where
  free : FreeL F
  sub : ∀ x, x ∈ l → x ∈ F
  nodup : l.Nodup
  tree : TreeOf f rkN (f 32) (srtK z l)
theorem TreeIs.perm {z : Nat → Nat} {k : List Nat} (h : TreeIs f z F l) (hp : l.Perm k) : TreeIs f z F k :=
  ⟨h.free, fun x hx => h.sub x (hp.mem_iff.2 hx), hp.nodup_iff.1 h.nodup, by rw [← srtK_of_perm hp h.nodup]; exact h.tree⟩
theorem TreeIs.nil {z : Nat → Nat} (h : FreeL F) (h0 : f 32 = 0) : TreeIs f z F [] := ⟨h, by simp, by simp, by rw [h0]; exact TreeOf.nil⟩
theorem TreeIs.same {z : Nat → Nat} (h : TreeIs f z F l) (k : TreeIs g z F l) : f 32 = g 32 ∧ ∀ x, x ∈ l → f (x + 8) = g (x + 8) ∧ f (x + 16) = g (x + 16) := by
  obtain ⟨h1, h2⟩ := h.tree.same k.tree
  exact ⟨h1, fun x hx => h2 x (srtK_mem.2 hx)⟩
end
end Go.Proofs.YthhboidjibdahaaGreat
