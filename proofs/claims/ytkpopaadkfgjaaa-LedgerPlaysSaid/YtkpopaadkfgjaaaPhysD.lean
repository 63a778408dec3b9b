/-
  Rows of blocks: where they lie, and what is found in them: the contracts of the library's IndexFunc at blocks, of begins, beside, Before and After.
  Conditions: the blocks lie in memory; there are 1000000 at most.
-/
import Derived.Test.YtkpopaadkfgjaaaPhysC
namespace Go.Proofs.Ytkpopaadkfgjaaa
open Go.RowKit
set_option linter.unusedVariables false
set_option linter.unusedSimpArgs false

def gO (l : List Blk) (k : Nat) : Nat := (l.getD k default).off
def gS (l : List Blk) (k : Nat) : Nat := (l.getD k default).s
def gU (l : List Blk) (k : Nat) : Bool := (l.getD k default).u
def gW (l : List Blk) (k : Nat) : Int := (l.getD k default).o
def gN (l : List Blk) (k : Nat) : Nat := (l.getD k default).n
/-- Blocks lie in memory, one behind the other, from la on. -/
structure BlksAt (w : World) (la : Option Addr) (l : List Blk) : Prop where
  cells : 0 < l.length → ∃ b off, la = some ⟨b, off, none⟩ ∧ b < w.heap.size ∧ ∀ k, k < l.length → w.cell? ⟨b, off + k * 5, none⟩ = some (.int .u64 (gO l k : Nat)) ∧ w.cell? ⟨b, off + k * 5 + 1, none⟩ = some (.int .u64 (gS l k : Nat)) ∧ w.cell? ⟨b, off + k * 5 + 2, none⟩ = some (.bool (gU l k)) ∧ w.cell? ⟨b, off + k * 5 + 3, none⟩ = some (.int .i64 (gW l k)) ∧ w.cell? ⟨b, off + k * 5 + 4, none⟩ = some (.int .u64 (gN l k : Nat))
theorem BlksAt.later {w w' : World} {la : Option Addr} {l : List Blk} (h : BlksAt w la l) (hg : w.grownBy w' none) : BlksAt w' la l where
  cells := fun hn => by
    obtain ⟨b, off, h1, h2, h3⟩ := h.cells hn
    refine ⟨b, off, h1, Nat.lt_of_lt_of_le h2 hg.size, fun i hi => ?_⟩
    have hb := hg.block b h2 (by simp)
    obtain ⟨c0, c1, c2, c3, c4⟩ := h3 i hi
    exact ⟨(World.cell?_of_block (w := w) (a := ⟨b, off + i * 5, none⟩) hb).trans c0, (World.cell?_of_block (w := w) (a := ⟨b, off + i * 5 + 1, none⟩) hb).trans c1, (World.cell?_of_block (w := w) (a := ⟨b, off + i * 5 + 2, none⟩) hb).trans c2, (World.cell?_of_block (w := w) (a := ⟨b, off + i * 5 + 3, none⟩) hb).trans c3, (World.cell?_of_block (w := w) (a := ⟨b, off + i * 5 + 4, none⟩) hb).trans c4⟩
theorem OwnB.later {w w' : World} {base : Nat} {t : TypeId} {v : Value} {l : List Blk} (h : OwnB w base t v l) (hg : w.grownBy w' none) : OwnB w' base t v l := own_kept h hg
theorem OwnB.mono {w : World} {base base' : Nat} {t : TypeId} {v : Value} {l : List Blk} (h : OwnB w base t v l) (hb : base' ≤ base) : OwnB w base' t v l := World.ownsRow.mono h hb
theorem OwnB.at_ {w : World} {base : Nat} {t : TypeId} {v : Value} {l : List Blk} (h : OwnB w base t v l) : ∃ la c, v = .slice la l.length c ∧ BlksAt w la l := by
  rcases h.2 with ⟨h1, h2⟩ | ⟨g, cap, cur, hv, hbg, hg, rest⟩
  · exact ⟨none, 0, by rw [h1, h2], ⟨fun h => by omega⟩⟩
  · refine ⟨_, cap, hv, ⟨fun _ => ⟨g, 0, rfl, lt_of_block hg, fun k hk => ?_⟩⟩⟩
    have h' := h
    unfold OwnB at h'
    rw [hv] at h'
    have hl := cellsB_len l
    have c0 := (World.ownsRow.cellAt h' (k * 5) (by omega)).trans (cellsB_at l k 0 hk (by decide))
    have c1 := (World.ownsRow.cellAt h' (k * 5 + 1) (by omega)).trans (cellsB_at l k 1 hk (by decide))
    have c2 := (World.ownsRow.cellAt h' (k * 5 + 2) (by omega)).trans (cellsB_at l k 2 hk (by decide))
    have c3 := (World.ownsRow.cellAt h' (k * 5 + 3) (by omega)).trans (cellsB_at l k 3 hk (by decide))
    have c4 := (World.ownsRow.cellAt h' (k * 5 + 4) (by omega)).trans (cellsB_at l k 4 hk (by decide))
    rw [Nat.zero_add]
    exact ⟨c0, c1, c2, c3, c4⟩
/-! the first one that is asked for -/
def fstN (p : Blk → Bool) : List Blk → Option Nat
  | [] => none
  | b :: r => if p b = true then some 0 else (fstN p r).map (· + 1)
def fstZ (p : Blk → Bool) (l : List Blk) : Int := match fstN p l with | some i => (i : Int) | none => -1
section
variable {p : Blk → Bool} {l : List Blk}
theorem fstN_is {k : Nat} (h : k < l.length) (hx : p (l.getD k default) = true) (hj : ∀ j, j < k → p (l.getD j default) = false) : fstN p l = some k := by
  induction l generalizing k with
  | nil => simp at h
  | cons b r ih =>
    unfold fstN
    cases k with
    | zero =>
      have : p b = true := by simpa using hx
      rw [if_pos this]
    | succ k =>
      have h0 : p b = false := by simpa using hj 0 (Nat.succ_pos k)
      rw [if_neg (by simp [h0]), ih (k := k) (by simpa using h) (by simpa using hx) (fun j hj' => by simpa using hj (j + 1) (Nat.succ_lt_succ hj'))]
      rfl
theorem fstN_not (hj : ∀ j, j < l.length → p (l.getD j default) = false) : fstN p l = none := by
  induction l with
  | nil => rfl
  | cons b r ih =>
    unfold fstN
    have h0 : p b = false := by simpa using hj 0 (by simp)
    rw [if_neg (by simp [h0]), ih (fun j hj' => by simpa using hj (j + 1) (by simpa using hj'))]
    rfl
theorem fstN_some {k : Nat} (h : fstN p l = some k) : k < l.length ∧ p (l.getD k default) = true := by
  induction l generalizing k with
  | nil => cases h
  | cons b r ih =>
    unfold fstN at h
    split at h
    · rename_i e
      injection h with h
      subst h
      exact ⟨by simp, by simpa using e⟩
    · cases e : fstN p r with
      | none => rw [e] at h; cases h
      | some i =>
        rw [e] at h
        injection h with h
        subst h
        obtain ⟨h1, h2⟩ := ih e
        exact ⟨by simpa using h1, by simpa using h2⟩
theorem fstN_skip {k : Nat} (h : fstN p l = some k) : ∀ j, j < k → p (l.getD j default) = false := by
  induction l generalizing k with
  | nil => cases h
  | cons b r ih =>
    unfold fstN at h
    split at h
    · injection h with h
      subst h
      intro j hj
      omega
    · rename_i e0
      cases e : fstN p r with
      | none => rw [e] at h; cases h
      | some i =>
        rw [e] at h
        injection h with h
        subst h
        intro j hj
        cases j with
        | zero => simpa using e0
        | succ j => simpa using ih e j (Nat.lt_of_succ_lt_succ hj)
theorem fstN_none (h : fstN p l = none) : ∀ j, j < l.length → p (l.getD j default) = false := by
  intro j hj
  cases e : p (l.getD j default) with
  | false => rfl
  | true =>
    exfalso
    induction l generalizing j with
    | nil => simp at hj
    | cons b r ih =>
      unfold fstN at h
      split at h
      · cases h
      · rename_i e0
        have h' : fstN p r = none := by
          cases e1 : fstN p r with
          | none => rfl
          | some i => rw [e1] at h; cases h
        cases j with
        | zero => exact e0 (by simpa using e)
        | succ j => exact ih h' j (by simpa using hj) (by simpa using e)
end
/-- so many places behind the first one that is asked for -/
def besN (p : Blk → Bool) (l : List Blk) (d : Int) : Option Blk :=
  match fstN p l with
  | none => none
  | some i => if 0 ≤ (i : Int) + d ∧ (i : Int) + d < l.length then some (l.getD ((i : Int) + d).toNat default) else none
def besB (p : Blk → Bool) (l : List Blk) (d : Int) : Blk := (besN p l d).getD Blk.none
def pO (off : Nat) (b : Blk) : Bool := decide (b.off = off)
def pF (payload : Nat) (b : Blk) : Bool := b.u && decide ((b.off + 32) % 18446744073709551616 = payload)
/-! ### the closures -/
/-! ### IndexFunc -/
theorem fstZ_is {p : Blk → Bool} {l : List Blk} {k : Nat} (h : k < l.length) (hx : p (l.getD k default) = true) (hj : ∀ j, j < k → p (l.getD j default) = false) : (k : Int) = fstZ p l := by
  unfold fstZ
  rw [fstN_is h hx hj]
theorem fstZ_not {p : Blk → Bool} {l : List Blk} (hj : ∀ j, j < l.length → p (l.getD j default) = false) : -1 = fstZ p l := by
  unfold fstZ
  rw [fstN_not hj]
/-- What is asked of a predicate over these blocks. -/
def Asks (g cb : Nat) (p : Blk → Bool) (w : World) : Prop := ∀ W, w.grownBy W none → ∀ b : Blk, Calls Try.prog g #[.agg #[.int .u64 (b.off : Nat), .int .u64 (b.s : Nat), .bool b.u, .int .i64 b.o, .int .u64 (b.n : Nat)], .pointer (some ⟨cb, 0, none⟩)] W fun e w' => e = .returned (.bool (p b)) ∧ W.grownBy w' none
theorem Asks.later {g cb : Nat} {p : Blk → Bool} {w w' : World} (h : Asks g cb p w) (hg : w.grownBy w' none) : Asks g cb p w' := fun W hW b => h W (grown_trans hg hW) b
end Go.Proofs.Ytkpopaadkfgjaaa
