/-
  Blocks that are laid one behind the other in a segment that is used whole, as plain mathematics of layer 7.
  No condition.
-/
import Derived.Test.YtkpopaadkfgjaaaPhysL
namespace Go.Proofs.Ytkpopaadkfgjaaa
open Go.RowKit
set_option linter.unusedVariables false
set_option linter.unusedSimpArgs false

theorem fmt4800 : fitsP 4800 4800 := by unfold fitsP; omega
theorem see4800 : txSee (fmt48 4800) [] 16 = 4800 := by rw [fmt48_yes fmt4800, see_nil]; exact fmt48_16 fmt4800
theorem LayP.first7 : LayP (fmt48 4800) [] 3776 0 := ⟨TxOk.empty _, fun _ _ => rfl, rfl, fun k hk => absurd hk (Nat.not_lt_zero _), by omega⟩
section
variable {l : List (Nat × Nat)} {off n : Nat}
theorem LayP.top7 (h : LayP (fmt48 4800) l off n) : txSee (fmt48 4800) l 16 = 4800 := by rw [h.low 16 (by decide)]; exact see4800
/-- a block is laid behind, m: how its words are otherwise thought of -/
theorem LayP.next7 (h : LayP (fmt48 4800) l off n) {s : Nat} {u : Bool} {o : Nat} (hm : mayP s u o) (hs : off + s ≤ 4800) {l' : List (Nat × Nat)} (hok : TxOk (fmt48 4800) l') (h1 : txSee (fmt48 4800) l' off = packN s u o) (h2 : txSee (fmt48 4800) l' (off + s - 8) = packN s u o) (h3 : u = true → txSee (fmt48 4800) l' (off + 8) + 40 ≤ s)
    (h4 : ∀ x, x < off → txSee (fmt48 4800) l' x = txSee (fmt48 4800) l x) : LayP (fmt48 4800) l' (off + s) (n + 1) := by
  have hal := h.al
  have ha := offs_ahead (g := txSee (fmt48 4800) l') h.good h.at_ h4
  have e16 : txSee (fmt48 4800) l' 16 = 4800 := by rw [h4 16 (by omega)]; exact h.top7
  have hoff := (ha n (Nat.le_refl _)).1
  rw [h.at_] at hoff
  obtain ⟨_, p2, p3, p4, p5⟩ := unpack_pack hm
  have hmm := hm
  unfold mayP at hmm
  refine ⟨hok, fun x hx => (h4 x (by omega)).trans (h.low x hx), ?_, fun k hk => ?_, by omega⟩
  · show offs (txSee (fmt48 4800) l') n + usz (txSee (fmt48 4800) l' (offs (txSee (fmt48 4800) l') n)) = off + s
    rw [hoff, h1, p3]
  · rcases Nat.lt_succ_iff_lt_or_eq.1 hk with h5 | rfl
    · exact (ha k (by omega)).2 h5
    · rw [hoff]
      unfold bkP rdP
      rw [h1, p3, p4, e16]
      exact ⟨⟨p2, by unfold inP; omega, h2⟩, h3⟩
/-- The heap of a segment in which blocks are laid. -/
structure Laid7 (l : List (Nat × Nat)) (N : Nat) : Prop where
  ok : TxOk (fmt48 4800) l
  chk : chkN (fmt48 4800) l = 0
  walks : Walks (txSee (fmt48 4800) l) N true
  ends : offs (txSee (fmt48 4800) l) N = 4800
  free : ∃ k, k < N ∧ uus (txSee (fmt48 4800) l (offs (txSee (fmt48 4800) l) k)) = false
  low : ∀ x, x < 3776 → txSee (fmt48 4800) l x = txSee (fmt48 4800) [] x
theorem LayP.last7 (h : LayP (fmt48 4800) l off n) {s : Nat} {m : Nat} (hm : mayP s false (m : Int)) {l' : List (Nat × Nat)} (h1 : txSee (fmt48 4800) l' off = packN s false m) (h4 : ∀ x, x < off → txSee (fmt48 4800) l' x = txSee (fmt48 4800) l x) : ∃ k, k < n + 1 ∧ uus (txSee (fmt48 4800) l' (offs (txSee (fmt48 4800) l') k)) = false := by
  have hoff := (offs_ahead (g := txSee (fmt48 4800) l') h.good h.at_ h4 n (Nat.le_refl _)).1
  rw [h.at_] at hoff
  exact ⟨n, by omega, by rw [hoff, h1]; exact (unpack_pack hm).2.2.2.1⟩
theorem LayP.done7 (h : LayP (fmt48 4800) l 4800 n) (hf : ∃ k, k < n ∧ uus (txSee (fmt48 4800) l (offs (txSee (fmt48 4800) l) k)) = false) : Laid7 l n := by
  refine ⟨h.ok, ?_, ⟨fun k hk => ⟨?_, h.good k hk⟩, ?_⟩, h.at_, hf, h.low⟩
  · have hc : chkP (fmt48 4800) l := by
      unfold chkP
      rw [h.low 16 (by decide), h.low 0 (by decide), h.low 8 (by decide), h.low 40 (by decide), fmt48_len, see4800, see_nil, see_nil, see_nil, fmt48_yes fmt4800]
      exact ⟨fmt4800, fmt48_0 fmt4800, fmt48_8 fmt4800, fmt48_40 fmt4800⟩
    exact if_pos hc
  · rw [h.top7]
    have := (bk_ge (h.good k hk)).2.2.1
    rw [h.top7] at this
    exact this
  · rw [if_pos rfl, h.top7, h.at_]
    exact Nat.le_refl _
/-- so many blocks' offsets, the free ones' -/
def freeN (f : Nat → Nat) : Nat → List Nat
  | 0 => []
  | k + 1 => freeN f k ++ if uus (f (offs f k)) = true then [] else [offs f k]
theorem freeN_mem {f : Nat → Nat} {x : Nat} : ∀ {k : Nat}, x ∈ freeN f k ↔ ∃ j, j < k ∧ x = offs f j ∧ uus (f x) = false
  | 0 => by simp [freeN]
  | k + 1 => by
    unfold freeN
    rw [List.mem_append, freeN_mem]
    constructor
    · rintro (⟨j, h1, h2, h3⟩ | h)
      · exact ⟨j, by omega, h2, h3⟩
      · by_cases c : uus (f (offs f k)) = true
        · simp [c] at h
        · rw [if_neg c] at h
          have : x = offs f k := by simpa using h
          subst this
          exact ⟨k, by omega, rfl, by simpa using c⟩
    · rintro ⟨j, h1, h2, h3⟩
      rcases Nat.lt_succ_iff_lt_or_eq.1 h1 with h4 | rfl
      · exact .inl ⟨j, h4, h2, h3⟩
      · right
        subst h2
        rw [if_neg (by rw [h3]; decide)]
        simp
theorem freeN_len {f : Nat → Nat} : ∀ k : Nat, (freeN f k).length ≤ k
  | 0 => Nat.le_refl _
  | k + 1 => by
    have := freeN_len (f := f) k
    unfold freeN
    by_cases c : uus (f (offs f k)) = true
    · simp [c]; omega
    · simp [c]; omega
/-- Offsets of free blocks: where they may stand, and that they are apart. -/
structure FreeL (l : List Nat) : Prop where
  on : ∀ x, x ∈ l → x % 16 = 0 ∧ 3776 ≤ x ∧ x + 48 ≤ 4800
  apart : l.Pairwise fun x y => x + 48 ≤ y
theorem FreeL.nodup {k : List Nat} (h : FreeL k) : k.Nodup := h.apart.imp fun h => by omega
theorem far_of : ∀ {k : List Nat}, k.Pairwise (fun x y => x + 48 ≤ y) → ∀ {x y : Nat}, x ∈ k → y ∈ k → x ≠ y → x + 48 ≤ y ∨ y + 48 ≤ x
  | [], _, x, y, hx, _, _ => by simp at hx
  | a :: k, h, x, y, hx, hy, hn => by
    have h' := List.pairwise_cons.1 h
    rcases List.mem_cons.1 hx with ex | kx
    · rcases List.mem_cons.1 hy with ey | ky
      · omega
      · rw [ex]; exact .inl (h'.1 y ky)
    · rcases List.mem_cons.1 hy with ey | ky
      · rw [ey]; exact .inr (h'.1 x kx)
      · exact far_of h'.2 kx ky hn
theorem FreeL.far {k : List Nat} (h : FreeL k) {x y : Nat} (hx : x ∈ k) (hy : y ∈ k) (hn : x ≠ y) : x + 48 ≤ y ∨ y + 48 ≤ x := far_of h.apart hx hy hn
theorem freeN_apart {f : Nat → Nat} {N : Nat} (h : ∀ k, k < N → bkP f (offs f k)) : ∀ k, k ≤ N → (freeN f k).Pairwise fun x y => x + 48 ≤ y
  | 0, _ => by simp [freeN]
  | k + 1, hk => by
    have ih := freeN_apart h k (by omega)
    unfold freeN
    by_cases c : uus (f (offs f k)) = true
    · rw [if_pos c, List.append_nil]; exact ih
    · rw [if_neg c, List.pairwise_append]
      refine ⟨ih, by simp, fun x hx y hy => ?_⟩
      obtain ⟨j, h1, h2, _⟩ := freeN_mem.1 hx
      have : y = offs f k := by simpa using hy
      subst this
      subst h2
      exact (offs_step h h1 (by omega)).2
theorem Laid7.frees {N : Nat} (h : Laid7 l N) : FreeL (freeN (txSee (fmt48 4800) l) N) ∧ 0 < (freeN (txSee (fmt48 4800) l) N).length := by
  have hg : ∀ k, k < N → bkP (txSee (fmt48 4800) l) (offs (txSee (fmt48 4800) l) k) := fun k hk => (h.walks.lt k hk).2
  refine ⟨⟨fun x hx => ?_, freeN_apart hg N (Nat.le_refl _)⟩, ?_⟩
  · obtain ⟨j, h1, h2, _⟩ := freeN_mem.1 hx
    have h3 := bk_ge (hg j h1)
    have h4 := offs_step hg h1 (Nat.le_refl N)
    rw [h.ends] at h4
    subst h2
    omega
  · obtain ⟨k, h1, h2⟩ := h.free
    exact List.length_pos_of_mem (freeN_mem.2 ⟨k, h1, rfl, h2⟩)
end
end Go.Proofs.Ytkpopaadkfgjaaa
