/-
  What the statements of layer 9 begin with: a formatted segment of 4800 bytes, in which blocks are laid, and where these are (laid).
  Conditions: the pieces lie in memory.
-/
import Derived.Test.YtoamlkljfmgomaaGreatLTag
import Derived.Test.YtoamlkljfmgomaaGreatLedL
import Derived.Test.YtoamlkljfmgomaaGreatLTx
import Derived.Test.YtoamlkljfmgomaaGreatLTreez
import Derived.Test.YtoamlkljfmgomaaGreatLTree
import Derived.Test.YtoamlkljfmgomaaGreatLPhys
namespace Go.Proofs.YtoamlkljfmgomaaGreat
open Go.RowKit
set_option linter.unusedVariables false
set_option linter.unusedSimpArgs false

/-- so many blocks' offsets -/
def offL (f : Nat → Nat) : Nat → List Nat
  | 0 => []
  | k + 1 => offL f k ++ [offs f k]
theorem offL_len (f : Nat → Nat) : ∀ k : Nat, (offL f k).length = k
  | 0 => rfl
  | k + 1 => by unfold offL; rw [List.length_append, offL_len f k]; rfl
theorem offL_mem {f : Nat → Nat} {x : Nat} : ∀ {k : Nat}, x ∈ offL f k ↔ ∃ j, j < k ∧ x = offs f j
  | 0 => by simp [offL]
  | k + 1 => by
    unfold offL
    rw [List.mem_append, offL_mem]
    constructor
    · rintro (⟨j, h1, h2⟩ | h)
      · exact ⟨j, by omega, h2⟩
      · exact ⟨k, by omega, by simpa using h⟩
    · rintro ⟨j, h1, h2⟩
      rcases Nat.lt_succ_iff_lt_or_eq.1 h1 with h4 | rfl
      · exact .inl ⟨j, h4, h2⟩
      · exact .inr (by simp [h2])
/-- .. of blocks that are laid -/
theorem Laid7.grid {l : List (Nat × Nat)} {N : Nat} (h : Laid7 l N) : Grid (offL (txSee (fmt48 4800) l) N) ∧ 0 < N := by
  have hg : ∀ k, k < N → bkP (txSee (fmt48 4800) l) (offs (txSee (fmt48 4800) l) k) := fun k hk => (h.walks.lt k hk).2
  refine ⟨⟨fun x hx => ?_, fun x hx y hy hxy => ?_⟩, ?_⟩
  · obtain ⟨j, h1, h2⟩ := offL_mem.1 hx
    have h3 := bk_ge (hg j h1)
    have h4 := offs_step hg h1 (Nat.le_refl N)
    rw [h.ends] at h4
    subst h2
    omega
  · obtain ⟨j, h1, h2⟩ := offL_mem.1 hx
    obtain ⟨k, h3, h4⟩ := offL_mem.1 hy
    subst h2 h4
    rcases Nat.lt_trichotomy j k with e | e | e
    · exact .inl (offs_step hg e (by omega)).2
    · subst e; exact absurd rfl hxy
    · exact .inr (offs_step hg e (by omega)).2
  · obtain ⟨k, h1, _⟩ := h.free
    omega
/-- What laid tells. -/
def Laid9W (A B C : Nat → Nat) (w : World) (n : Nat) (e : Ending) (w' : World) : Prop :=
  ∃ l N, Laid7 l N ∧ (N ≤ n + 1 ∧ N ≤ 21 ∧ (n ≤ 6 → N = n + 1)) ∧ l = layZ A B C (min n 20) ∧ ∃ B D T M R fv, e = .returned (.tuple #[.pointer (some ⟨T, 0, none⟩), fv]) ∧ Txs w w' T M R B D (fmt48 4800) l ∧ OwnW w' w.heap.size fv (offL (txSee (fmt48 4800) l) N) ∧ ∀ g, fv.ownBlock = some g → R ≠ some g
structure Laid9F (ws : List Nat) (l : List (Nat × Nat)) (N : Nat) : Prop where
  heap : Heap ws l (blks (txSee ws l) N) 0
  few : N ≤ 1000000
theorem laid9_facts {l : List (Nat × Nat)} {N : Nat} (h : Laid7 l N) : Laid9F (fmt48 4800) l N := by
  have hN := walks_small (ws := fmt48 4800) (by rw [fmt48_len]; decide) h.chk h.walks
  refine ⟨⟨.inr ⟨h.chk, N, true, h.walks, ?_, ?_⟩, by rw [blks_len]; exact hN⟩, hN⟩
  · unfold wkL; rw [if_pos rfl]
  · unfold wkE; rw [if_pos rfl]
end Go.Proofs.YtoamlkljfmgomaaGreat
