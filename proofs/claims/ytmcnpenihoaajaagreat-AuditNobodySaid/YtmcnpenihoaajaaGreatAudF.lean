/-
  A formatted segment's words, as package audit asks them: one free block, the tree of it, no lists, no names.
  Conditions: the size fits in 4800 bytes.
-/
import Derived.Test.YtmcnpenihoaajaaGreatLHea
import Derived.Test.YtmcnpenihoaajaaGreatLPhb
import Derived.Test.YtmcnpenihoaajaaGreatLTrd
import Derived.Test.YtmcnpenihoaajaaGreatLCla
import Derived.Test.YtmcnpenihoaajaaGreatLClb
import Derived.Test.YtmcnpenihoaajaaGreatLDia
import Derived.Test.YtmcnpenihoaajaaGreatLCaa
import Derived.Test.YtmcnpenihoaajaaGreatAudA
import Derived.Test.YtmcnpenihoaajaaGreatAudL
namespace Go.Proofs.YtmcnpenihoaajaaGreat
open Go.RowKit
set_option linter.unusedVariables false
set_option linter.unusedSimpArgs false
set_option maxRecDepth 100000

/-- A formatted segment's words. -/
def frF (n off : Nat) : Nat := if off = n - 8 then n - 3776 else if off = 3776 then n - 3776 else if off = 32 then 3776 else if off = 40 then sumN n else if off = 16 then n else if off = 8 then 1 else if off = 0 then 7161130718081542961 else 0
theorem see_fr {n : Nat} (h : fitsP n 4800) : txSee (fmtW 600 n) [] = frF n := by
  funext off
  rw [see_nil, getW_fmt (show fitsP n (8 * 600) from h)]
  rfl
section
variable {n : Nat}
theorem fr_16 (h : fitsP n 4800) : frF n 16 = n := by
  obtain ⟨h1, h2, h3⟩ := h
  unfold frF
  rw [if_neg (by omega), if_neg (by omega), if_neg (by omega), if_neg (by omega), if_pos rfl]
theorem fr_heap (h : fitsP n 4800) : frF n 3776 = n - 3776 := by
  obtain ⟨h1, h2, h3⟩ := h
  unfold frF
  split
  · rfl
  · rw [if_pos rfl]
theorem fr_end (h : fitsP n 4800) : frF n (n - 8) = n - 3776 := if_pos rfl
theorem fr_root (h : fitsP n 4800) : frF n 32 = 3776 := by
  obtain ⟨h1, h2, h3⟩ := h
  unfold frF
  rw [if_neg (by omega), if_neg (by omega), if_pos rfl]
theorem fr_zero (h : fitsP n 4800) {x : Nat} (hx : 48 ≤ x) (hx2 : x < 3776 ∨ x = 3784 ∨ x = 3792) : frF n x = 0 := by
  obtain ⟨h1, h2, h3⟩ := h
  unfold frF
  rw [if_neg (by omega), if_neg (by omega), if_neg (by omega), if_neg (by omega), if_neg (by omega), if_neg (by omega), if_neg (by omega)]
theorem fr_size {s : Nat} (h1 : s % 16 = 0) (h2 : s < 4294967296) : usz s = s ∧ uus s = false ∧ uow s = 0 := by
  unfold usz uus uow
  refine ⟨by omega, by rw [decide_eq_false_iff_not]; omega, by omega⟩
theorem fr_bk (h : fitsP n 4800) : bkP (frF n) 3776 ∧ bkAt (frF n) 3776 = freeB 3776 (n - 3776) := by
  have hh := h
  obtain ⟨h1, h2, h3⟩ := h
  obtain ⟨e1, e2, e3⟩ := fr_size (s := n - 3776) (by omega) (by omega)
  refine ⟨⟨⟨?_, ?_, ?_⟩, fun hu => ?_⟩, ?_⟩
  · unfold mayW
    rw [fr_heap hh, e1, e2, e3]
    unfold mayP
    exact ⟨by omega, by omega, by omega, by omega, by omega, .inr rfl⟩
  · rw [fr_heap hh, e1, fr_16 hh]
    unfold inP
    omega
  · rw [fr_heap hh, e1, show 3776 + (n - 3776) - 8 = n - 8 by omega, fr_end hh]
  · rw [fr_heap hh, e2] at hu
    cases hu
  · unfold bkAt bkL freeB
    rw [fr_heap hh, e1, e2, e3]
    rfl
theorem fr_walks (h : fitsP n 4800) : Walks (frF n) 1 true := by
  refine ⟨fun k hk => ?_, ?_⟩
  · obtain rfl : k = 0 := by omega
    refine ⟨?_, (fr_bk h).1⟩
    rw [fr_16 h]
    show 3776 < n
    have := h.2.1
    omega
  · rw [if_pos rfl, fr_16 h]
    show n ≤ 3776 + usz (frF n 3776)
    obtain ⟨h1, h2, h3⟩ := id h
    rw [fr_heap h, (fr_size (s := n - 3776) (by omega) (by omega)).1]
    omega
theorem fr_blocks (h : fitsP n 4800) : wkL (frF n) 1 true = [freeB 3776 (n - 3776)] := by
  unfold wkL blks
  rw [if_pos rfl]
  show [bkAt (frF n) 3776] = _
  rw [(fr_bk h).2]
theorem fr_bed (h : fitsP n 4800) : Bed (fmtW 600 n) [] (fun x => tS (txSee (fmtW 600 n) [] x)) [3776] where
  free := ⟨fun x hx => by obtain rfl : x = 3776 := by simpa using hx
                          omega, by simp⟩
  long := by rw [fmtW_len]
  keys := fun _ _ => rfl
theorem fr_tree (h : fitsP n 4800) (z : Nat → Nat) : TreeOf (frF n) rkN (frF n 32) (srtK z [3776]) := by
  have e : srtK z [3776] = [3776] := by simp [srtK, insK]
  rw [e, fr_root h]
  refine .inr ⟨by decide, [], [], rfl, fun x hx => (by simp at hx), fun x hx => (by simp at hx), ⟨?_, rfl⟩, ⟨?_, rfl⟩⟩
  · exact fr_zero h (by decide) (by decide)
  · exact fr_zero h (by decide) (by decide)
theorem fr_get (h : fitsP n 4800) (c : Int) (q : Nat) : cGet (fmtW 600 n) [] c q = 0 := by
  unfold cGet
  split
  · rename_i hs
    have := slot_lt hs
    rw [see_fr h]
    refine fr_zero h ?_ (.inl this)
    unfold slotN
    omega
  · rfl
theorem fr_ent (h : fitsP n 4800) : entK (frF n) 16 = [] := by
  unfold entK
  rw [List.filterMap_eq_nil_iff]
  intro i hi
  have h1 := List.mem_range.1 hi
  unfold entAt dAt
  rw [if_neg]
  rw [fr_zero h (by omega) (by omega)]
  omega
theorem fr_states (h : fitsP n 4800) : ofState (fun x => cGet (fmtW 600 n) [] x 0) 1 = [] := by
  unfold ofState
  rw [List.filter_eq_nil_iff]
  intro x hx
  simp only [fr_get h]
  decide
variable {w : World} {T M : Nat} {R : Option Nat} {B D : Nat}
theorem fr_tells (hf : fitsP n 4800) (h : Thinks w T M R B D (fmtW 600 n) []) (c : Int) : TellsG w (.pointer (some ⟨T, 0, none⟩)) c (fun _ => 0) 0 where
  first := fun V hg => by
    have := chead_any (h.later hg) c
    rw [fr_get hf] at this
    exact this
  size := fun V hg => (txsize_any (h.later hg)).mono fun e V' hq => by
    obtain ⟨h1, h2⟩ := hq
    rw [fmtW_len] at h1
    exact ⟨h1, h2⟩
  next := fun V k hg hk => absurd hk (Nat.not_lt_zero _)
  low := fun k hk => absurd hk (Nat.not_lt_zero _)
  few := by decide
  fin := fun _ => rfl
end
end Go.Proofs.YtmcnpenihoaajaaGreat
