/-
  What is taken from a heap's blocks: where it fits best, and which blocks and lists stand behind it.
  No condition: plain mathematics of layer 10.
-/
import Derived.Test.YtoamlkljfmgomaaGreatCarA
namespace Go.Proofs.YtoamlkljfmgomaaGreat
open Go.RowKit
set_option linter.unusedVariables false
set_option linter.unusedSimpArgs false

/-- may payloads begin on multiples of a? -/
def alignP (a : Nat) : Prop := a = 16 ∨ a = 32 ∨ a = 64 ∨ a = 128 ∨ a = 256 ∨ a = 512 ∨ a = 1024 ∨ a = 2048 ∨ a = 4096
instance (a : Nat) : Decidable (alignP a) := by unfold alignP; infer_instance
theorem alignP.le {a : Nat} (h : alignP a) : 16 ≤ a ∧ a ≤ 4096 ∧ a % 16 = 0 := by unfold alignP at h; omega
/-- so many bytes stay free ahead, in a block at off -/
def padN (off a : Nat) : Nat := if (off + 32) % a = 0 then 0 else if 48 ≤ a - (off + 32) % a then a - (off + 32) % a else 2 * a - (off + 32) % a
/-- is it n? -/
def padIs (off a n : Nat) : Prop := (off + 32 + n) % a = 0 ∧ (n = 0 ∨ 48 ≤ n)
theorem padN_is {off a : Nat} (ha : alignP a) (ho : off % 16 = 0) : padIs off a (padN off a) := by
  unfold padIs padN
  rcases ha with rfl | rfl | rfl | rfl | rfl | rfl | rfl | rfl | rfl <;> split <;> first | omega | (split <;> omega)
theorem padN_least {off a n : Nat} (ha : alignP a) (ho : off % 16 = 0) (hn : n % 16 = 0) (h : padIs off a n) : padN off a ≤ n := by
  unfold padIs at h
  unfold padN
  rcases ha with rfl | rfl | rfl | rfl | rfl | rfl | rfl | rfl | rfl <;> split <;> first | omega | (split <;> omega)
theorem padN_al {off a : Nat} (ha : alignP a) (ho : off % 16 = 0) : padN off a % 16 = 0 ∧ padN off a < 8192 := by
  unfold padN
  rcases ha with rfl | rfl | rfl | rfl | rfl | rfl | rfl | rfl | rfl <;> split <;> first | omega | (split <;> omega)
/-- does it fit into a free block? -/
def fitB (need a : Nat) (b : Blk) : Bool := !b.u && decide (need ≤ b.s) && decide (padN b.off a ≤ b.s - need)
/-- where among the first k it fits best -/
def bestK (p : Blk → Bool) (bs : List Blk) : Nat → Option Nat
  | 0 => none
  | k + 1 =>
    match bestK p bs k with
    | none => if p (bs.getD k default) = true then some k else none
    | some i => if p (bs.getD k default) = true ∧ (bs.getD k default).s < (bs.getD i default).s then some k else some i
/-- what bestK tells -/
def BestIs (p : Blk → Bool) (bs : List Blk) (k : Nat) : Option Nat → Prop
  | none => ∀ j, j < k → p (bs.getD j default) = false
  | some i => i < k ∧ p (bs.getD i default) = true ∧ ∀ j, j < k → p (bs.getD j default) = true → (bs.getD i default).s < (bs.getD j default).s ∨ ((bs.getD i default).s = (bs.getD j default).s ∧ i ≤ j)
theorem bestK_is (p : Blk → Bool) (bs : List Blk) : ∀ k, BestIs p bs k (bestK p bs k)
  | 0 => fun j hj => absurd hj (Nat.not_lt_zero _)
  | k + 1 => by
    have ih := bestK_is p bs k
    unfold bestK
    cases e : bestK p bs k with
    | none =>
      rw [e] at ih
      simp only
      by_cases hp : p (bs.getD k default) = true
      · rw [if_pos hp]
        refine ⟨Nat.lt_succ_self k, hp, fun j hj hpj => ?_⟩
        rcases Nat.lt_succ_iff_lt_or_eq.1 hj with h | rfl
        · rw [ih j h] at hpj; cases hpj
        · exact .inr ⟨rfl, Nat.le_refl _⟩
      · rw [if_neg hp]
        intro j hj
        rcases Nat.lt_succ_iff_lt_or_eq.1 hj with h | rfl
        · exact ih j h
        · simpa using hp
    | some i =>
      rw [e] at ih
      obtain ⟨h1, h2, h3⟩ := ih
      simp only
      by_cases hp : p (bs.getD k default) = true ∧ (bs.getD k default).s < (bs.getD i default).s
      · rw [if_pos hp]
        refine ⟨Nat.lt_succ_self k, hp.1, fun j hj hpj => ?_⟩
        rcases Nat.lt_succ_iff_lt_or_eq.1 hj with h | rfl
        · rcases h3 j h hpj with h4 | h4
          · exact .inl (by omega)
          · exact .inl (by omega)
        · exact .inr ⟨rfl, Nat.le_refl _⟩
      · rw [if_neg hp]
        refine ⟨by omega, h2, fun j hj hpj => ?_⟩
        rcases Nat.lt_succ_iff_lt_or_eq.1 hj with h | rfl
        · exact h3 j h hpj
        · have : ¬ (bs.getD j default).s < (bs.getD i default).s := fun h => hp ⟨hpj, h⟩
          omega
/-- .. it is one alone -/
theorem BestIs.only {p : Blk → Bool} {bs : List Blk} {k : Nat} {x y : Option Nat} (h : BestIs p bs k x) (h' : BestIs p bs k y) : x = y := by
  cases x with
  | none =>
    cases y with
    | none => rfl
    | some j => have := h j h'.1; rw [h'.2.1] at this; cases this
  | some i =>
    cases y with
    | none => have := h' i h.1; rw [h.2.1] at this; cases this
    | some j =>
      have h1 := h.2.2 j h'.1 h'.2.1
      have h2 := h'.2.2 i h.1 h.2.1
      congr 1
      omega
/-- where n bytes fit on a multiple of a: the block's place, and the error otherwise (1, 2, 3) -/
def fitM (bs : List Blk) (n a : Nat) : Option Nat := bestK (fitB (needOf n) a) bs bs.length
/-- what is told where they don't -/
def fitErr (bs : List Blk) (n a : Nat) : Nat := if ¬ alignP a then 1 else if 18446744073709551560 < n then 2 else if fitM bs n a = none then 3 else 0
/-- a free block -/
def freeB (off s : Nat) : Blk := ⟨off, s, false, 0, 0⟩
/-- what becomes of a block, of which n bytes are taken -/
def cutB (b : Blk) (pad need owner n : Nat) : List Blk :=
  (if pad = 0 then [] else [freeB b.off pad]) ++ (⟨b.off + pad, if b.s - pad - need < 48 then b.s - pad else need, true, owner, n⟩ :: if b.s - pad - need < 48 then [] else [freeB (b.off + pad + need) (b.s - pad - need)])
/-- what becomes of the blocks -/
def takeB (bs : List Blk) (i pad need owner n : Nat) : List Blk := bs.take i ++ cutB (bs.getD i default) pad need owner n ++ bs.drop (i + 1)
/-- .. and of the lists -/
def takeL (L : Nat → List Nat) (owner off : Nat) : Nat → List Nat := if owner = 0 then L else setL L (owner - 1) (off :: L (owner - 1))
end Go.Proofs.YtoamlkljfmgomaaGreat
