/-
  What stands behind 'filled': a segment of words that were stored one by one, and the plain answer's words; both stores whole, and how the argument's pairs lie in memory.
  Conditions: what is stored are numbers of 64 bits.
-/
import Derived.Test.YtkpopaadkfgjaaaSegS
namespace Go.Proofs.Ytkpopaadkfgjaaa
open Go.RowKit
set_option linter.unusedVariables false
set_option linter.unusedSimpArgs false

/-- A segment of the call's own (or nobody's), of these words. -/
def SegOwn (w : World) (base : Nat) (v : Value) (ws : List Nat) : Prop := (v = .pointer none ∧ ws = []) ∨ ∃ B D, v = .pointer (some ⟨B, 0, none⟩) ∧ base ≤ B ∧ base ≤ D ∧ IsSeg w B D ws
theorem SegOwn.at_ {w : World} {base : Nat} {v : Value} {ws : List Nat} (h : SegOwn w base v ws) : SegAt w v ws := by
  rcases h with h | ⟨B, D, h1, _, _, h2⟩
  · exact .inl h
  · exact .inr ⟨B, D, h1, h2⟩
theorem SegOwn.later {w w' : World} {base : Nat} {v : Value} {ws : List Nat} (h : SegOwn w base v ws) (hg : w.grownBy w' none) : SegOwn w' base v ws := by
  rcases h with h | ⟨B, D, h1, h2, h3, h4⟩
  · exact .inl h
  · exact .inr ⟨B, D, h1, h2, h3, h4.later hg⟩
theorem SegOwn.yes {w : World} {base : Nat} {v : Value} {ws : List Nat} (h : SegOwn w base v ws) (hne : ws ≠ []) : ∃ B D, v = .pointer (some ⟨B, 0, none⟩) ∧ base ≤ B ∧ base ≤ D ∧ IsSeg w B D ws := by
  rcases h with ⟨_, h⟩ | h
  · exact absurd h hne
  · exact h
/-- What a store leaves: one row of bytes from base on may be otherwise. -/
structure Wrote (w : World) (base : Nat) (w' : World) : Prop where
  row : ∃ row : Option Nat, w.grownBy w' row ∧ ∀ d, row = some d → base ≤ d ∧ ∃ c fr, w.heap[d]? = some (.cells c 5 fr)
theorem Wrote.own {w w' : World} {base b : Nat} {v : Value} {ws : List Nat} (h : Wrote w base w') (ho : OwnW w b v ws) : OwnW w' b v ws := by
  obtain ⟨row, hg, hr⟩ := h.row
  refine World.ownsRow.kept ho hg ?_
  rcases e : v.ownBlock with _ | g
  · exact .inl rfl
  · right
    intro e2
    obtain ⟨_, c, fr, hc⟩ := hr g e2.symm
    rcases ho.2 with ⟨h1, _⟩ | ⟨g', cap, cur, h1, _, h2, _⟩
    · rw [h1] at e; cases e
    · rw [h1] at e
      injection e with e
      subst e
      rw [h2] at hc
      injection hc with hc
      injection hc with _ h3 _
      exact absurd h3 (by decide)
theorem Wrote.grown {w0 w w' : World} {base : Nat} (h : Wrote w base w') (hg : w0.grownBy w none) (hb : w0.heap.size ≤ base) : w0.grownBy w' none := by
  obtain ⟨row, hg2, hr⟩ := h.row
  exact grown_step hg hg2 fun i hi => .inl (Nat.le_trans hb (hr i hi).1)
theorem Wrote.not {w w' : World} {base : Nat} (hg : w.grownBy w' none) : Wrote w base w' := ⟨Option.none, hg, fun d h => by cases h⟩
theorem put_none {ws : List Nat} {off v : Nat} (h : ¬ stands ws off) : put ws off v = ws := by unfold put; rw [if_neg h]
theorem store_own {w : World} {base : Nat} {v : Value} {ws : List Nat} (h : SegOwn w base v ws) (off x : Nat) (hlt : off < 18446744073709551616) (hx : x < 18446744073709551616) :
    Calls Try.prog 41 #[v, .int .u64 off, .int .u64 x] w fun e w' => e = .returned (.int .i64 (errW ws off : Nat)) ∧ Wrote w base w' ∧ SegOwn w' base v (put ws off x) := by
  rcases h with ⟨rfl, rfl⟩ | ⟨B, D, rfl, hB, hD, h⟩
  · have hno : ¬ stands [] off := fun h => by have := h.2; simp at this
    refine (store_no (.inl ⟨rfl, rfl⟩) off x hlt hno).mono ?_
    rintro e w' ⟨rfl, hg⟩
    exact ⟨by unfold errW; rw [if_neg hno]; rfl, Wrote.not hg, .inl ⟨rfl, put_none hno⟩⟩
  · refine (store_any h off x hlt hx).mono ?_
    rintro e w' ⟨rfl, hg, hs⟩
    exact ⟨rfl, ⟨some D, hg, fun d hd => by injection hd with hd; subst hd; exact ⟨hD, _, _, h.data⟩⟩, .inr ⟨B, D, rfl, hB, hD, hs⟩⟩
theorem rstore_any {w : World} {base : Nat} {v : Value} {ws : List Nat} (h : OwnW w base v ws) (hb : base ≤ w.heap.size) (hm : ws.length ≤ 131072) (off x : Nat) (hlt : off < 18446744073709551616) :
    Calls Try.prog 81 #[v, .int .u64 off, .int .u64 x] w fun e w' => ∃ v', e = .returned (.tuple #[v', .int .i64 (errW ws off : Nat)]) ∧ w.grownBy w' none ∧ OwnW w' base v' (put ws off x) := by
  by_cases hs : stands ws off
  · obtain ⟨q, hq⟩ : ∃ q, 8 * q = off := ⟨off / 8, by have := hs.1; omega⟩
    have hql : q < ws.length := by have := hs.2; omega
    subst hq
    refine (rstore_yes h hm q x hql).mono ?_
    rintro e w' ⟨v', rfl, hp⟩
    refine ⟨v', by unfold errW; rw [if_pos hs]; rfl, hp.grown, ?_⟩
    unfold put
    rw [if_pos hs, show 8 * q / 8 = q by omega]
    exact hp.own.mono hb
  · refine (rstore_no h hm off x hlt hs).mono ?_
    rintro e w' ⟨rfl, rfl⟩
    refine ⟨v, by unfold errW; rw [if_neg hs]; rfl, grown_refl _ _, ?_⟩
    rw [put_none hs]
    exact h

/-- Pairs of numbers in memory: a slice of n of them (nil, perhaps, where there is none). -/
structure PutsAt (w : World) (la : Option Addr) (n : Nat) (X V : Nat → Nat) : Prop where
  lt : ∀ i, X i < 18446744073709551616 ∧ V i < 18446744073709551616
  cells : 0 < n → ∃ b off, la = some ⟨b, off, none⟩ ∧ b < w.heap.size ∧ ∀ i, i < n → w.cell? ⟨b, off + i * 2, none⟩ = some (.int .u64 (X i : Nat)) ∧ w.cell? ⟨b, off + i * 2 + 1, none⟩ = some (.int .u64 (V i : Nat))
theorem PutsAt.later {w w' : World} {la : Option Addr} {n : Nat} {X V : Nat → Nat} (h : PutsAt w la n X V) (hg : w.grownBy w' none) : PutsAt w' la n X V where
  lt := h.lt
  cells := fun hn => by
    obtain ⟨b, off, h1, h2, h3⟩ := h.cells hn
    refine ⟨b, off, h1, Nat.lt_of_lt_of_le h2 hg.size, fun i hi => ?_⟩
    have hb := hg.block b h2 (by simp)
    exact ⟨(World.cell?_of_block (w := w) (a := ⟨b, off + i * 2, none⟩) hb).trans (h3 i hi).1, (World.cell?_of_block (w := w) (a := ⟨b, off + i * 2 + 1, none⟩) hb).trans (h3 i hi).2⟩
/-- words, with k pairs stored -/
def fillW (ws : List Nat) (X V : Nat → Nat) : Nat → List Nat
  | 0 => ws
  | k + 1 => put (fillW ws X V k) (X k) (V k)
theorem fillW_len (ws : List Nat) (X V : Nat → Nat) : ∀ k, (fillW ws X V k).length = ws.length
  | 0 => rfl
  | k + 1 => by unfold fillW; rw [put_len, fillW_len ws X V k]
theorem fillW_lt {ws : List Nat} {X V : Nat → Nat} (h : ∀ x ∈ ws, x < 18446744073709551616) (hV : ∀ i, V i < 18446744073709551616) : ∀ k, ∀ x ∈ fillW ws X V k, x < 18446744073709551616
  | 0 => h
  | k + 1 => put_lt (fillW_lt h hV k) (hV k)
/-- What filled has made. -/
structure FillRel (w : World) (v wv : Value) (ws : List Nat) (wr : World) : Prop where
  grown : w.grownBy wr none
  seg : SegOwn wr w.heap.size v ws
  own : OwnW wr w.heap.size wv ws
end Go.Proofs.Ytkpopaadkfgjaaa
