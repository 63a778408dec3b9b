/-
  Texts of one layer, one behind the other: memory, contracts of the functions, and what follows of them.
  Conditions: as each theorem says.
-/
import Derived.Test.YtcngmkfpbcemjaaGreatPhysC
set_option linter.unusedVariables false
set_option linter.unusedSimpArgs false
namespace Go.Proofs.YtcngmkfpbcemjaaGreat
open Go.RowKit
def gO (l : List Blk) (k : Nat) : Nat := (l.getD k default).off
def gS (l : List Blk) (k : Nat) : Nat := (l.getD k default).s
def gU (l : List Blk) (k : Nat) : Bool := (l.getD k default).u
def gW (l : List Blk) (k : Nat) : Int := (l.getD k default).o
def gN (l : List Blk) (k : Nat) : Nat := (l.getD k default).n
structure BlksAt (w : World) (la : Option Addr) (l : List Blk) : Prop where
  cells : 0 < l.length → ∃ b off, la = some ⟨b, off, none⟩ ∧ b < w.heap.size ∧ ∀ k, k < l.length → w.cell? ⟨b, off + k * 5, none⟩ = some (.int .u64 (gO l k : Nat)) ∧ w.cell? ⟨b, off + k * 5 + 1, none⟩ = some (.int .u64 (gS l k : Nat)) ∧ w.cell? ⟨b, off + k * 5 + 2, none⟩ = some (.bool (gU l k)) ∧ w.cell? ⟨b, off + k * 5 + 3, none⟩ = some (.int .i64 (gW l k)) ∧ w.cell? ⟨b, off + k * 5 + 4, none⟩ = some (.int .u64 (gN l k : Nat))
theorem BlksAt.later {w w' : World} {la : Option Addr} {l : List Blk} (h : BlksAt w la l) (hg : w.grownBy w' none) : BlksAt w' la l where
  cells := fun hn => by
    obtain ⟨b, off, h1, h2, h3⟩ := h.cells hn
    refine ⟨b, off, h1, Nat.lt_of_lt_of_le h2 hg.size, fun i hi => ?_⟩
    have hb := hg.block b h2 (by simp)
    obtain ⟨c0, c1, c2, c3, c4⟩ := h3 i hi
    exact ⟨(World.cell?_of_block (w := w) (a := ⟨b, off + i * 5, none⟩) hb).trans c0, (World.cell?_of_block (w := w) (a := ⟨b, off + i * 5 + 1, none⟩) hb).trans c1, (World.cell?_of_block (w := w) (a := ⟨b, off + i * 5 + 2, none⟩) hb).trans c2, (World.cell?_of_block (w := w) (a := ⟨b, off + i * 5 + 3, none⟩) hb).trans c3, (World.cell?_of_block (w := w) (a := ⟨b, off + i * 5 + 4, none⟩) hb).trans c4⟩
theorem OwnB.later {w w' : World} {base : Nat} {t : TypeId} {v : Value} {l : List Blk} (h : OwnB w base t v l) (hg : w.grownBy w' none) : OwnB w' base t v l := own_kept h hg
theorem OwnB.mono {w : World} {base base' : Nat} {t : TypeId} {v : Value} {l : List Blk} (h : OwnB w base t v l) (hb : base' ≤ base) : OwnB w base' t v l := World.ownsRow.mono h hb
theorem OwnB.at_ {w : World} {base : Nat} {t : TypeId} {v : Value} {l : List Blk} (h : OwnB w base t v l) : ∃ la c, v = .slice la l.length c ∧ BlksAt w la l := by
  rcases h.2 with ⟨h1, h2⟩ | ⟨g, cap, cur, hv, hbg, hg, rest⟩
  · exact ⟨none, 0, by rw [h1, h2], ⟨fun h => by omega⟩⟩
  · refine ⟨_, cap, hv, ⟨fun _ => ⟨g, 0, rfl, lt_of_block hg, fun k hk => ?_⟩⟩⟩
    have h' := h
    unfold OwnB at h'
    rw [hv] at h'
    have hl := cellsB_len l
    have c0 := (World.ownsRow.cellAt h' (k * 5) (by omega)).trans (cellsB_at l k 0 hk (by decide))
    have c1 := (World.ownsRow.cellAt h' (k * 5 + 1) (by omega)).trans (cellsB_at l k 1 hk (by decide))
    have c2 := (World.ownsRow.cellAt h' (k * 5 + 2) (by omega)).trans (cellsB_at l k 2 hk (by decide))
    have c3 := (World.ownsRow.cellAt h' (k * 5 + 3) (by omega)).trans (cellsB_at l k 3 hk (by decide))
    have c4 := (World.ownsRow.cellAt h' (k * 5 + 4) (by omega)).trans (cellsB_at l k 4 hk (by decide))
    rw [Nat.zero_add]
    exact ⟨c0, c1, c2, c3, c4⟩
def fstN (p : Blk → Bool) : List Blk → Option Nat
  | [] => none
  | b :: r => if p b = true then some 0 else (fstN p r).map (· + 1)
def fstZ (p : Blk → Bool) (l : List Blk) : Int := match fstN p l with | some i => (i : Int) | none => -1
section
variable {p : Blk → Bool} {l : List Blk}
theorem fstN_is {k : Nat} (h : k < l.length) (hx : p (l.getD k default) = true) (hj : ∀ j, j < k → p (l.getD j default) = false) : fstN p l = some k := by
  induction l generalizing k with
  | nil => simp at h
  | cons b r ih =>
    unfold fstN
    cases k with
    | zero =>
      have : p b = true := by simpa using hx
      rw [if_pos this]
    | succ k =>
      have h0 : p b = false := by simpa using hj 0 (Nat.succ_pos k)
      rw [if_neg (by simp [h0]), ih (k := k) (by simpa using h) (by simpa using hx) (fun j hj' => by simpa using hj (j + 1) (Nat.succ_lt_succ hj'))]
      rfl
theorem fstN_not (hj : ∀ j, j < l.length → p (l.getD j default) = false) : fstN p l = none := by
  induction l with
  | nil => rfl
  | cons b r ih =>
    unfold fstN
    have h0 : p b = false := by simpa using hj 0 (by simp)
    rw [if_neg (by simp [h0]), ih (fun j hj' => by simpa using hj (j + 1) (by simpa using hj'))]
    rfl
theorem fstN_some {k : Nat} (h : fstN p l = some k) : k < l.length ∧ p (l.getD k default) = true := by
  induction l generalizing k with
  | nil => cases h
  | cons b r ih =>
    unfold fstN at h
    split at h
    · rename_i e
      injection h with h
      subst h
      exact ⟨by simp, by simpa using e⟩
    · cases e : fstN p r with
      | none => rw [e] at h; cases h
      | some i =>
        rw [e] at h
        injection h with h
        subst h
        obtain ⟨h1, h2⟩ := ih e
        exact ⟨by simpa using h1, by simpa using h2⟩
theorem fstN_skip {k : Nat} (h : fstN p l = some k) : ∀ j, j < k → p (l.getD j default) = false := by
  induction l generalizing k with
  | nil => cases h
  | cons b r ih =>
    unfold fstN at h
    split at h
    · injection h with h
      subst h
      intro j hj
      omega
    · rename_i e0
      cases e : fstN p r with
      | none => rw [e] at h; cases h
      | some i =>
        rw [e] at h
        injection h with h
        subst h
        intro j hj
        cases j with
        | zero => simpa using e0
        | succ j => simpa using ih e j (Nat.lt_of_succ_lt_succ hj)
theorem fstN_none (h : fstN p l = none) : ∀ j, j < l.length → p (l.getD j default) = false := by
  intro j hj
  cases e : p (l.getD j default) with
  | false => rfl
  | true =>
    exfalso
    induction l generalizing j with
    | nil => simp at hj
    | cons b r ih =>
      unfold fstN at h
      split at h
      · cases h
      · rename_i e0
        have h' : fstN p r = none := by
          cases e1 : fstN p r with
          | none => rfl
          | some i => rw [e1] at h; cases h
        cases j with
        | zero => exact e0 (by simpa using e)
        | succ j => exact ih h' j (by simpa using hj) (by simpa using e)
end
def besN (p : Blk → Bool) (l : List Blk) (d : Int) : Option Blk :=
  match fstN p l with
  | none => none
  | some i => if 0 ≤ (i : Int) + d ∧ (i : Int) + d < l.length then some (l.getD ((i : Int) + d).toNat default) else none
def besB (p : Blk → Bool) (l : List Blk) (d : Int) : Blk := (besN p l d).getD Blk.none
def pO (off : Nat) (b : Blk) : Bool := decide (b.off = off)
def pF (payload : Nat) (b : Blk) : Bool := b.u && decide ((b.off + 32) % 18446744073709551616 = payload)
theorem begins_any (off : Nat) (w : World) : Calls Tryz.prog 69 #[.int .u64 off] w fun e w' => e = .returned (.func (.func 114) #[] #[.pointer (some ⟨w.heap.size, 0, none⟩)]) ∧ w.alloc (.cells #[.int .u64 off] 23) = w' := by
  go_enter Tryz.func69, Tryz.ntmps69
  go_wp2
  go_ret
  exact ⟨rfl, rfl⟩
theorem begins1_any (b : Blk) (off cb : Nat) {w : World} (hc : w.cell? ⟨cb, 0, none⟩ = some (.int .u64 off)) :
    Calls Tryz.prog 114 #[.agg #[.int .u64 (b.off : Nat), .int .u64 (b.s : Nat), .bool b.u, .int .i64 b.o, .int .u64 (b.n : Nat)], .pointer (some ⟨cb, 0, none⟩)] w fun e w' => e = .returned (.bool (pO off b)) ∧ w.grownBy w' none := by
  have hg0 : w.grownBy (w.alloc (.cells #[.int .u64 (b.off : Nat), .int .u64 (b.s : Nat), .bool b.u, .int .i64 b.o, .int .u64 (b.n : Nat)] 56)) none := World.grownBy_alloc _ _ _
  have hc1 : (w.alloc (.cells #[.int .u64 (b.off : Nat), .int .u64 (b.s : Nat), .bool b.u, .int .i64 b.o, .int .u64 (b.n : Nat)] 56)).cell? ⟨cb, 0, none⟩ = some (.int .u64 off) := Lib.cell?_alloc_some _ hc
  have e : pO off b = ((b.off : Int) == (off : Int)) := by
    unfold pO
    rw [Bool.eq_iff_iff, decide_eq_true_iff, beq_iff_eq]
    omega
  rw [e]
  go_enter Tryz.func114, Tryz.ntmps114
  go_wp2
  go_ret
  exact ⟨rfl, hg0⟩
theorem find1_any (b : Blk) (payload cb : Nat) {w : World} (hc : w.cell? ⟨cb, 0, none⟩ = some (.int .u64 payload)) :
    Calls Tryz.prog 52 #[.agg #[.int .u64 (b.off : Nat), .int .u64 (b.s : Nat), .bool b.u, .int .i64 b.o, .int .u64 (b.n : Nat)], .pointer (some ⟨cb, 0, none⟩)] w fun e w' => e = .returned (.bool (pF payload b)) ∧ w.grownBy w' none := by
  have hg0 : w.grownBy (w.alloc (.cells #[.int .u64 (b.off : Nat), .int .u64 (b.s : Nat), .bool b.u, .int .i64 b.o, .int .u64 (b.n : Nat)] 56)) none := World.grownBy_alloc _ _ _
  have hc1 : (w.alloc (.cells #[.int .u64 (b.off : Nat), .int .u64 (b.s : Nat), .bool b.u, .int .i64 b.o, .int .u64 (b.n : Nat)] 56)).cell? ⟨cb, 0, none⟩ = some (.int .u64 payload) := Lib.cell?_alloc_some _ hc
  have e : pF payload b = (b.u && (IntKind.u64.wrap ((b.off : Int) + 32) == (payload : Int))) := by
    unfold pF
    congr 1
    rw [Bool.eq_iff_iff, decide_eq_true_iff, beq_iff_eq, IntKind.wrap_u64]
    omega
  rw [e]
  cases hu : b.u with
  | false =>
    rw [hu] at hg0 hc1
    go_enter Tryz.func52, Tryz.ntmps52
    go_wp2
    go_ret
    exact ⟨rfl, hg0⟩
  | true =>
    rw [hu] at hg0 hc1
    rw [Bool.true_and]
    go_enter Tryz.func52, Tryz.ntmps52
    go_wp2
    go_ret
    exact ⟨rfl, hg0⟩
theorem fstZ_is {p : Blk → Bool} {l : List Blk} {k : Nat} (h : k < l.length) (hx : p (l.getD k default) = true) (hj : ∀ j, j < k → p (l.getD j default) = false) : (k : Int) = fstZ p l := by
  unfold fstZ
  rw [fstN_is h hx hj]
theorem fstZ_not {p : Blk → Bool} {l : List Blk} (hj : ∀ j, j < l.length → p (l.getD j default) = false) : -1 = fstZ p l := by
  unfold fstZ
  rw [fstN_not hj]
def Asks (g cb : Nat) (p : Blk → Bool) (w : World) : Prop := ∀ W, w.grownBy W none → ∀ b : Blk, Calls Tryz.prog g #[.agg #[.int .u64 (b.off : Nat), .int .u64 (b.s : Nat), .bool b.u, .int .i64 b.o, .int .u64 (b.n : Nat)], .pointer (some ⟨cb, 0, none⟩)] W fun e w' => e = .returned (.bool (p b)) ∧ W.grownBy w' none
theorem Asks.later {g cb : Nat} {p : Blk → Bool} {w w' : World} (h : Asks g cb p w) (hg : w.grownBy w' none) : Asks g cb p w' := fun W hW b => h W (grown_trans hg hW) b
theorem asks_begins (off cb : Nat) {w : World} (hb : cb < w.heap.size) (hc : w.cell? ⟨cb, 0, none⟩ = some (.int .u64 off)) : Asks 114 cb (pO off) w := fun W hW b =>
  begins1_any b off cb ((World.cell?_of_block (w := w) (a := ⟨cb, 0, none⟩) (hW.block cb hb (by simp))).trans hc)
theorem asks_find (payload cb : Nat) {w : World} (hb : cb < w.heap.size) (hc : w.cell? ⟨cb, 0, none⟩ = some (.int .u64 payload)) : Asks 52 cb (pF payload) w := fun W hW b =>
  find1_any b payload cb ((World.cell?_of_block (w := w) (a := ⟨cb, 0, none⟩) (hW.block cb hb (by simp))).trans hc)
set_option maxHeartbeats 1000000 in
theorem indexfunc_any {g cb : Nat} (eg : ∀ args w, (callFunc g args).run Tryz.prog w = .ok (.enter g args) w) {p : Blk → Bool} {w : World} {la : Option Addr} {c : Nat} {l : List Blk} (h : BlksAt w la l) (hl : l.length ≤ 1000000) (ha : Asks g cb p w) :
    Calls Tryz.prog 90 #[.slice la l.length c, .func (.func g) #[] #[.pointer (some ⟨cb, 0, none⟩)]] w fun e w' => e = .returned (.int .i64 (fstZ p l)) ∧ w.grownBy w' none := by
  obtain ⟨n, hn⟩ : ∃ n, l.length = n := ⟨_, rfl⟩
  have HN := Lib.hid hn
  rw [hn] at hl ⊢
  clear hn
  go_enter Tryz.func90, Tryz.ntmps90
  go_wp2
  go_loopw [8] (fun i wr => ∃ k : Nat, k ≤ n ∧ i = .int .i64 k ∧ w.grownBy wr none ∧ Hid (∀ j, j < k → p (l.getD j default) = false)) (fun i _ => n - (intOf i).toNat)
  case atStart => exact ⟨0, Nat.zero_le _, rfl, grown_refl _ _, Lib.hid (fun j hj => absurd hj (Nat.not_lt_zero _))⟩
  case round =>
    obtain ⟨k, hk, rfl, hg, HJ⟩ := hrel
    rcases Nat.lt_or_ge k n with h1 | h1
    · obtain ⟨b, off, rfl, hb, hcs⟩ := (h.later hg).cells (by rw [HN.out]; omega)
      obtain ⟨c0, c1, c2, c3, c4⟩ := hcs k (by rw [HN.out]; exact h1)
      have hcall : Calls Tryz.prog g #[.agg #[.int .u64 (gO l k : Nat), .int .u64 (gS l k : Nat), .bool (gU l k), .int .i64 (gW l k), .int .u64 (gN l k : Nat)], .pointer (some ⟨cb, 0, none⟩)] wr _ := ha wr hg (l.getD k default)
      obtain ⟨r, hr⟩ : ∃ r, p (l.getD k default) = r := ⟨_, rfl⟩
      rw [hr] at hcall
      have HR := Lib.hid hr
      clear hr hcs h ha
      cases r with
      | true =>
        go_wp2_with (go_at_fn g; refine hcall.mono ?_; rintro e w' ⟨rfl, hg1⟩)
        go_ret
        exact ⟨ret_int' (fstZ_is (by rw [HN.out]; exact h1) HR.out HJ.out), grown_trans hg hg1⟩
      | false =>
        go_wp2_with (go_at_fn g; refine hcall.mono ?_; rintro e w' ⟨rfl, hg1⟩)
        go_roundw
        case rel =>
          refine ⟨k + 1, by omega, by go_num, grown_trans hg hg1, Lib.hid fun j hj => ?_⟩
          rcases Nat.lt_or_ge j k with h' | h'
          · exact HJ.out j h'
          · rw [show j = k by omega]; exact HR.out
        case measure => simp [intOf]; omega
    · obtain rfl : k = n := by omega
      clear h ha
      go_wp2
      go_ret
      exact ⟨ret_int' (fstZ_not (by rw [HN.out]; exact HJ.out)), hg⟩
end Go.Proofs.YtcngmkfpbcemjaaGreat
