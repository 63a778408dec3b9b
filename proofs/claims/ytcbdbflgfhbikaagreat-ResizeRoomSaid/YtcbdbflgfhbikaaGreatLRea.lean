/-
  Texts of one layer, one behind the other: memory, contracts of the functions, and what follows of them.
  Conditions: as each theorem says.
-/
import Derived.Test.YtcbdbflgfhbikaaGreatRows
import Derived.Lib.SmallJoins
import Derived.Deep.SlicePairs
import Derived.ProofKit
import Derived.OpenShut
import Derived.Carry
import Derived.ChangeOld
import Derived.SizedLaws
import Derived.Test.YtcbdbflgfhbikaaGreatLSea
import Derived.Test.YtcbdbflgfhbikaaGreatLPhc
import Derived.Test.YtcbdbflgfhbikaaGreatLCaa
import Derived.Test.YtcbdbflgfhbikaaGreatLCad
import Derived.Test.YtcbdbflgfhbikaaGreatLCae
import Derived.Laws.StructEq
set_option linter.unusedVariables false
set_option linter.unusedSimpArgs false
namespace Go.Proofs.YtcbdbflgfhbikaaGreat
open Go.ChangeShapes Go.WideShapes Go.ChangeAt Go.RowKit Go.Deep
theorem cells_deed11 : Tryz.prog.cellsOf 67 = 4 := by kernel_rfl
structure DoneAt (w : World) (la : Option Addr) (n : Nat) (X O A N : Nat → Nat) : Prop where
  lt : ∀ i, X i < 256 ∧ O i < 256 ∧ A i < 256 ∧ N i < 65536
  cells : 0 < n → ∃ b off, la = some ⟨b, off, none⟩ ∧ b < w.heap.size ∧ ∀ i, i < n → w.cell? ⟨b, off + i * 4, none⟩ = some (.int .u8 (X i : Nat)) ∧ w.cell? ⟨b, off + i * 4 + 1, none⟩ = some (.int .u8 (O i : Nat)) ∧ w.cell? ⟨b, off + i * 4 + 2, none⟩ = some (.int .u8 (A i : Nat)) ∧ w.cell? ⟨b, off + i * 4 + 3, none⟩ = some (.int .u16 (N i : Nat))
theorem DoneAt.later {w w' : World} {la : Option Addr} {n : Nat} {X O A N : Nat → Nat} (h : DoneAt w la n X O A N) (hg : w.grownBy w' none) : DoneAt w' la n X O A N where
  lt := h.lt
  cells := fun hn => by
    obtain ⟨b, off, h1, h2, h3⟩ := h.cells hn
    refine ⟨b, off, h1, Nat.lt_of_lt_of_le h2 hg.size, fun i hi => ?_⟩
    have hb := hg.block b h2 (by simp)
    obtain ⟨c0, c1, c2, c3⟩ := h3 i hi
    exact ⟨(World.cell?_of_block (w := w) (a := ⟨b, off + i * 4, none⟩) hb).trans c0, (World.cell?_of_block (w := w) (a := ⟨b, off + i * 4 + 1, none⟩) hb).trans c1, (World.cell?_of_block (w := w) (a := ⟨b, off + i * 4 + 2, none⟩) hb).trans c2, (World.cell?_of_block (w := w) (a := ⟨b, off + i * 4 + 3, none⟩) hb).trans c3⟩
section
variable {H : Type} {enc : TypeId × Value → H} {w : World}
set_option maxRecDepth 100000 in
theorem deed11_fields {n : Nat} {cs : List Value} {x : DataW H × List MemPlace} (h : DataW.trod enc Tryz.prog w 0 (fun _ => true) true n 67 cs = some x) :
    ∃ a b c d : Nat, cs = [.int .u8 a, .int .u8 b, .int .u8 c, .int .u16 d] ∧ a < 256 ∧ b < 256 ∧ c < 256 ∧ d < 65536 := by
  obtain ⟨xs, k, _, _, hcl, hxl, hf⟩ := DataW.trod_struct Tryz.underlying67 h
  rw [cells_deed11] at hcl
  match xs, hxl, cs, hcl with
  | [y0, y1, y2, y3], _, [v0, v1, v2, v3], _ =>
    have g0 := hf 0 _ rfl
    have g1 := hf 1 _ rfl
    have g2 := hf 2 _ rfl
    have g3 := hf 3 _ rfl
    simp [cells_u8, cells_u16] at g0 g1 g2 g3
    obtain ⟨k0, e0, _, w0⟩ := DataW.trod_int Tryz.underlying5 g0
    obtain ⟨k1, e1, _, w1⟩ := DataW.trod_int Tryz.underlying5 g1
    obtain ⟨k2, e2, _, w2⟩ := DataW.trod_int Tryz.underlying5 g2
    obtain ⟨k3, e3, _, w3⟩ := DataW.trod_int Tryz.underlying40 g3
    simp only [List.cons.injEq, and_true] at e0 e1 e2 e3
    have b0 := bounds_u8 w0
    have b1 := bounds_u8 w1
    have b2 := bounds_u8 w2
    have b3 := bounds_u16 w3
    obtain ⟨x, rfl⟩ := Int.eq_ofNat_of_zero_le b0.1
    obtain ⟨y, rfl⟩ := Int.eq_ofNat_of_zero_le b1.1
    obtain ⟨z, rfl⟩ := Int.eq_ofNat_of_zero_le b2.1
    obtain ⟨q, rfl⟩ := Int.eq_ofNat_of_zero_le b3.1
    exact ⟨x, y, z, q, by rw [e0, e1, e2, e3], by omega, by omega, by omega, by omega⟩
set_option maxRecDepth 100000 in
theorem open_done {r : Reach} {b0 : Nat} {v : Value} {d : DataW H} {p : List MemPlace} (hv : Value.okWide Tryz.prog w r b0 22 v) (h : DataW.Trod enc Tryz.prog w 0 (fun _ => true) true 22 v d p) :
    ∃ la n c X O A N, v = .slice la n c ∧ n ≤ c ∧ n ≤ maxLen ∧ DoneAt w la n X O A N := by
  obtain ⟨a0, l0, c0, rfl⟩ := okWide_slice Tryz.underlying22 hv
  obtain ⟨fuel, hf⟩ := h
  rcases open_slice Tryz.underlying22 hf with ⟨h0, _⟩ | ⟨a, len, cap, m, n, D, Pl, hcs, _, hl, hm, hmeq, hx, hall⟩
  · simp [Value.cells] at h0
    obtain ⟨rfl, rfl, rfl⟩ := h0
    exact ⟨none, 0, 0, fun _ => 0, fun _ => 0, fun _ => 0, fun _ => 0, rfl, Nat.le_refl _, Nat.zero_le _, ⟨fun _ => ⟨by decide, by decide, by decide, by decide⟩, fun h => by omega⟩⟩
  · simp [Value.cells] at hcs
    obtain ⟨rfl, rfl, rfl⟩ := hcs
    simp only [if_true] at hmeq
    subst hmeq
    have key : ∀ i, i < l0 → ∃ q : Nat × Nat × Nat × Nat, (w.cell? (a.add (i * 4)) = some (.int .u8 (q.1 : Nat)) ∧ w.cell? (a.add (i * 4 + 1)) = some (.int .u8 (q.2.1 : Nat)) ∧ w.cell? (a.add (i * 4 + 2)) = some (.int .u8 (q.2.2.1 : Nat)) ∧ w.cell? (a.add (i * 4 + 3)) = some (.int .u16 (q.2.2.2 : Nat))) ∧ q.1 < 256 ∧ q.2.1 < 256 ∧ q.2.2.1 < 256 ∧ q.2.2.2 < 65536 := by
      intro i hi
      obtain ⟨cs, h1, h2⟩ := hall i (by omega)
      rw [cells_deed11] at h1
      obtain ⟨_, hlen, hcell⟩ := World.cells?_some h1
      obtain ⟨x, y, z, q, rfl, hx, hy, hz, hq⟩ := deed11_fields h2
      have e0 := hcell 0 (by omega)
      have e1 := hcell 1 (by omega)
      have e2 := hcell 2 (by omega)
      have e3 := hcell 3 (by omega)
      rw [add_add] at e0 e1 e2 e3
      exact ⟨(x, y, z, q), ⟨by simpa using e0, by simpa using e1, by simpa using e2, by simpa using e3⟩, hx, hy, hz, hq⟩
    obtain ⟨q, hq⟩ := choose_lt (α := Nat × Nat × Nat × Nat) key
    refine ⟨some a, l0, m, fun i => if i < l0 then (q i).1 else 0, fun i => if i < l0 then (q i).2.1 else 0, fun i => if i < l0 then (q i).2.2.1 else 0, fun i => if i < l0 then (q i).2.2.2 else 0, rfl, hl, Nat.le_trans hl hm, ⟨fun i => ?_, fun hn => ?_⟩⟩
    · by_cases hi : i < l0
      · simp only [hi, if_true]
        exact (hq i hi).2
      · simp only [hi, if_false]
        exact ⟨by decide, by decide, by decide, by decide⟩
    · obtain ⟨b, off, rfl, hb⟩ := plain_spot (hq 0 hn).1.1
      have hadd : ∀ j, (⟨b, off, none⟩ : Addr).add j = ⟨b, off + j, none⟩ := fun j => by unfold Addr.add; split <;> simp_all
      refine ⟨b, off, rfl, hb, fun i hi => ?_⟩
      obtain ⟨⟨c0, c1, c2, c3⟩, _⟩ := hq i hi
      rw [hadd] at c0 c1 c2 c3
      simp only [hi, if_true]
      exact ⟨c0, by rw [Nat.add_assoc]; exact c1, by rw [Nat.add_assoc]; exact c2, by rw [Nat.add_assoc]; exact c3⟩
end
end Go.Proofs.YtcbdbflgfhbikaaGreat
namespace Go.Proofs.YtcbdbflgfhbikaaGreat
open Go.RowKit
def joinS (out : List Blk) (b : Blk) : List Blk :=
  match out.getLast? with
  | some p => if p.u = false ∧ b.u = false then out.dropLast ++ [⟨p.off, p.s + b.s, p.u, p.o, p.n⟩] else out ++ [b]
  | none => out ++ [b]
def joinK (bs : List Blk) : Nat → List Blk
  | 0 => []
  | k + 1 => joinS (joinK bs k) (bs.getD k default)
def joinB (bs : List Blk) : List Blk := bs.foldl joinS []
theorem joinK_take (bs : List Blk) : ∀ k, k ≤ bs.length → joinK bs k = (bs.take k).foldl joinS []
  | 0, _ => rfl
  | k + 1, h => by
    have hk : k < bs.length := by omega
    rw [List.take_succ_eq_append_getElem hk, List.foldl_append, ← joinK_take bs k (by omega)]
    show joinS _ (bs.getD k default) = joinS _ _
    rw [List.getD_eq_getElem?_getD, List.getElem?_eq_getElem hk]
    rfl
theorem joinK_all (bs : List Blk) : joinK bs bs.length = joinB bs := by rw [joinK_take bs _ (Nat.le_refl _), List.take_length]; rfl
theorem joinS_apart {out : List Blk} {b : Blk} (h : ∀ p, out.getLast? = some p → p.u = true ∨ b.u = true) : joinS out b = out ++ [b] := by
  unfold joinS
  cases e : out.getLast? with
  | none => rfl
  | some p =>
    dsimp only
    rw [if_neg]
    rintro ⟨h1, h2⟩
    rcases h p e with h3 | h3
    · rw [h1] at h3; cases h3
    · rw [h2] at h3; cases h3
theorem joinS_snoc {out : List Blk} {p b : Blk} (hp : p.u = false) (hb : b.u = false) : joinS (out ++ [p]) b = out ++ [⟨p.off, p.s + b.s, p.u, p.o, p.n⟩] := by
  unfold joinS
  rw [List.getLast?_concat]
  dsimp only
  rw [if_pos ⟨hp, hb⟩, List.dropLast_concat]
theorem join_merged : ∀ {r out : List Blk}, Mg (out ++ r) → r.foldl joinS out = out ++ r
  | [], out, _ => by simp
  | b :: r, out, h => by
    have h1 := mg_append.1 h
    have e : joinS out b = out ++ [b] := joinS_apart fun p hp => h1.2.2 p b hp rfl
    rw [List.foldl_cons, e, join_merged (r := r) (out := out ++ [b]) (by simpa using h)]
    simp
def lstB (L : Nat → List Nat) (b : Blk) : Nat → List Nat := if b.o = 0 then L else setL L (b.o.toNat - 1) ((L (b.o.toNat - 1)).filter fun y => decide (y ≠ b.off))
def lftA (A : List Blk) : List Blk := match A.getLast? with | some p => if p.u = true then A else A.dropLast | none => A
def lowA (A : List Blk) (off : Nat) : Nat := match A.getLast? with | some p => if p.u = true then off else p.off | none => off
def addA (A : List Blk) : Nat := match A.getLast? with | some p => if p.u = true then 0 else p.s | none => 0
def rgtC : List Blk → List Blk
  | [] => []
  | c :: r => if c.u = true then c :: r else r
def addC : List Blk → Nat
  | [] => 0
  | c :: _ => if c.u = true then 0 else c.s
theorem join_behind {X C : List Blk} {off s : Nat} (hX : Mg X) (hl : ∀ p, X.getLast? = some p → p.u = true) (hC : Mg C) : C.foldl joinS (X ++ [freeB off s]) = X ++ freeB off (s + addC C) :: rgtC C := by
  have hone : ∀ s' : Nat, Mg (X ++ [freeB off s']) := fun s' => mg_append.2 ⟨hX, trivial, fun p c h1 h2 => .inl (hl p h1)⟩
  cases C with
  | nil => rfl
  | cons c r =>
    by_cases hc : c.u = true
    · have e : (c :: r).foldl joinS (X ++ [freeB off s]) = X ++ [freeB off s] ++ (c :: r) := join_merged (mg_append.2 ⟨hone s, hC, fun p q h1 h2 => .inr (by
        rw [List.head?_cons] at h2; injection h2 with h2; rw [← h2]; exact hc)⟩)
      rw [e]
      rw [show addC (c :: r) = 0 from if_pos hc, show rgtC (c :: r) = c :: r from if_pos hc]
      simp
    · have hc' : c.u = false := by cases h : c.u with | true => exact absurd h hc | false => rfl
      rw [List.foldl_cons, joinS_snoc rfl hc']
      have hr : ∀ q, r.head? = some q → q.u = true := fun q hq => by
        cases r with
        | nil => cases hq
        | cons d t =>
          rw [List.head?_cons] at hq
          injection hq with hq
          rcases (mg_cons.1 hC).1 with h1 | h1
          · exact absurd h1 hc
          · rw [← hq]; exact h1
      have e : r.foldl joinS (X ++ [freeB off (s + c.s)]) = X ++ [freeB off (s + c.s)] ++ r := join_merged (mg_append.2 ⟨hone _, hC.tail, fun p q h1 h2 => .inr (hr q h2)⟩)
      have e2 : (⟨(freeB off s).off, (freeB off s).s + c.s, (freeB off s).u, (freeB off s).o, (freeB off s).n⟩ : Blk) = freeB off (s + c.s) := rfl
      rw [e2, e]
      rw [show addC (c :: r) = c.s from if_neg hc, show rgtC (c :: r) = r from if_neg hc]
      simp
theorem join_free {A C : List Blk} {b : Blk} (h : Mg (A ++ b :: C)) (hz : ∀ x ∈ A, x.u = false → x.o = 0 ∧ x.n = 0) :
    joinB (A ++ freeB b.off b.s :: C) = lftA A ++ freeB (lowA A b.off) (addA A + b.s + addC C) :: rgtC C := by
  have h1 := mg_append.1 h
  unfold joinB
  rw [List.foldl_append, join_merged (out := []) (r := A) h1.1, List.nil_append, List.foldl_cons]
  unfold lftA lowA addA
  cases e : A.getLast? with
  | none =>
    dsimp only
    have e0 : A = [] := List.getLast?_eq_none_iff.1 e
    subst e0
    rw [show joinS [] (freeB b.off b.s) = [] ++ [freeB b.off b.s] from rfl, join_behind (X := []) trivial (fun p hp => by cases hp) h1.2.1.tail, Nat.zero_add]
  | some p =>
    dsimp only
    by_cases hp : p.u = true
    · rw [if_pos hp, if_pos hp, if_pos hp, joinS_apart (fun q hq => .inl (by rw [e] at hq; injection hq with hq; rw [← hq]; exact hp)), join_behind h1.1 (fun q hq => by rw [e] at hq; injection hq with hq; rw [← hq]; exact hp) h1.2.1.tail, Nat.zero_add]
    · have hp' : p.u = false := by cases h : p.u with | true => exact absurd h hp | false => rfl
      rw [if_neg hp, if_neg hp, if_neg hp]
      obtain ⟨X, rfl⟩ : ∃ X, A = X ++ [p] := by
        obtain ⟨X, hX⟩ := List.getLast?_eq_some_iff.1 e
        exact ⟨X, hX⟩
      have h2 := mg_append.1 h1.1
      obtain ⟨z1, z2⟩ := hz p (by simp) hp'
      rw [joinS_snoc hp' rfl, List.dropLast_concat]
      have e2 : (⟨p.off, p.s + (freeB b.off b.s).s, p.u, p.o, p.n⟩ : Blk) = freeB p.off (p.s + b.s) := by rw [hp', z1, z2]; rfl
      rw [e2, join_behind h2.1 (fun q hq => (h2.2.2 q p hq rfl).resolve_right hp) h1.2.1.tail]
theorem join_cut {A C : List Blk} {b b' : Blk} (h : Mg (A ++ b :: C)) (hb : b'.u = true) {off s : Nat} :
    joinB (A ++ b' :: freeB off s :: C) = A ++ b' :: freeB off (s + addC C) :: rgtC C := by
  have h1 := mg_append.1 h
  have hA : Mg (A ++ [b']) := mg_append.2 ⟨h1.1, trivial, fun p q _ hq => .inr (by rw [List.head?_cons] at hq; injection hq with hq; rw [← hq]; exact hb)⟩
  unfold joinB
  rw [show A ++ b' :: freeB off s :: C = (A ++ [b']) ++ (freeB off s :: C) by simp, List.foldl_append, join_merged (out := []) (r := A ++ [b']) hA, List.nil_append, List.foldl_cons, joinS_apart (fun p hp => .inl (by rw [List.getLast?_concat] at hp; injection hp with hp; rw [← hp]; exact hb)), join_behind hA (fun p hp => by rw [List.getLast?_concat] at hp; injection hp with hp; rw [← hp]; exact hb) h1.2.1.tail]
  simp
end Go.Proofs.YtcbdbflgfhbikaaGreat
namespace Go.Proofs.YtcbdbflgfhbikaaGreat
open Go.RowKit
theorem left_cases (A : List Blk) (off : Nat) : (lftA A = A ∧ lowA A off = off ∧ addA A = 0 ∧ ∀ p, A.getLast? = some p → p.u = true) ∨ ∃ X p, A = X ++ [p] ∧ p.u = false ∧ lftA A = X ∧ lowA A off = p.off ∧ addA A = p.s := by
  unfold lftA lowA addA
  cases e : A.getLast? with
  | none => exact .inl ⟨rfl, rfl, rfl, fun p hp => by cases hp⟩
  | some p =>
    dsimp only
    by_cases hp : p.u = true
    · rw [if_pos hp, if_pos hp, if_pos hp]
      exact .inl ⟨rfl, rfl, rfl, fun q hq => by injection hq with hq; rw [← hq]; exact hp⟩
    · have hp' : p.u = false := by cases h : p.u with | true => exact absurd h hp | false => rfl
      rw [if_neg hp, if_neg hp, if_neg hp]
      obtain ⟨X, rfl⟩ := List.getLast?_eq_some_iff.1 e
      exact .inr ⟨X, p, rfl, hp', by rw [List.dropLast_concat], rfl, rfl⟩
theorem right_cases (C : List Blk) : (rgtC C = C ∧ addC C = 0 ∧ ∀ c, C.head? = some c → c.u = true) ∨ ∃ c r, C = c :: r ∧ c.u = false ∧ rgtC C = r ∧ addC C = c.s := by
  cases C with
  | nil => exact .inl ⟨rfl, rfl, fun c hc => by cases hc⟩
  | cons c r =>
    by_cases hc : c.u = true
    · exact .inl ⟨if_pos hc, if_pos hc, fun q hq => by rw [List.head?_cons] at hq; injection hq with hq; rw [← hq]; exact hc⟩
    · have hc' : c.u = false := by cases h : c.u with | true => exact absurd h hc | false => rfl
      exact .inr ⟨c, r, rfl, hc', if_neg hc, if_neg hc⟩
section
variable {f g : Nat → Nat} {E : Nat} {A C : List Blk} {b : Blk}
theorem free_told (h : Told f E 3776 (A ++ b :: C) E) : ∃ X, A ++ b :: C = lftA A ++ (X ++ rgtC C) ∧ Told f E 3776 (lftA A) (lowA A b.off) ∧ Told f E (b.off + b.s + addC C) (rgtC C) E ∧ lowA A b.off + addA A = b.off := by
  obtain ⟨m, hA, e, hb, hC⟩ := told_append.1 h
  have e' : b.off = m := e
  subst e'
  obtain ⟨P, e1, h1, e2⟩ : ∃ P, A = lftA A ++ P ∧ Told f E 3776 (lftA A) (lowA A b.off) ∧ lowA A b.off + addA A = b.off := by
    rcases left_cases A b.off with ⟨e1, e2, e3, _⟩ | ⟨X, p, e0, hp, e1, e2, e3⟩
    · exact ⟨[], by rw [e1, List.append_nil], by rw [e1, e2]; exact hA, by rw [e2, e3]; omega⟩
    · rw [e0] at hA
      obtain ⟨k, h1, e4, _, h2⟩ := told_append.1 hA
      have h2' : k + p.s = b.off := h2
      have e5 : p.off = k := e4
      exact ⟨[p], by rw [e1]; exact e0, by rw [e1, e2, show p.off = k from e4]; exact h1, by rw [e2, e3, e5]; exact h2'⟩
  obtain ⟨Q, e3, h3⟩ : ∃ Q, C = Q ++ rgtC C ∧ Told f E (b.off + b.s + addC C) (rgtC C) E := by
    rcases right_cases C with ⟨e1, e2, _⟩ | ⟨c, r, e0, hc, e1, e2⟩
    · exact ⟨[], by rw [e1]; rfl, by rw [e1, e2]; exact hC⟩
    · rw [e0] at hC
      obtain ⟨e4, _, h2⟩ := hC
      exact ⟨[c], by rw [e1]; exact e0, by rw [e1, e2]; exact h2⟩
  refine ⟨P ++ [b] ++ Q, ?_, h1, h3, e2⟩
  have e4 : A ++ b :: C = (lftA A ++ P) ++ b :: (Q ++ rgtC C) := by rw [← e1, ← e3]
  rw [e4]
  simp
theorem free_used : usedB (lftA A) = usedB A ∧ usedB (rgtC C) = usedB C := by
  constructor
  · rcases left_cases A 0 with ⟨e1, _⟩ | ⟨X, p, e0, hp, e1, _⟩
    · rw [e1]
    · rw [e1, e0, usedB_append, show usedB [p] = [] by unfold usedB; simp [hp], List.append_nil]
  · rcases right_cases C with ⟨e1, _⟩ | ⟨c, r, e0, hc, e1, _⟩
    · rw [e1]
    · rw [e1, e0, show usedB (c :: r) = usedB [c] ++ usedB r from usedB_append [c] r, show usedB [c] = [] by unfold usedB; simp [hc], List.nil_append]
theorem free_merged (h : Mg (A ++ b :: C)) (x : Blk) : Mg (lftA A ++ x :: rgtC C) := by
  have h1 := mg_append.1 h
  have hA : Mg (lftA A) ∧ ∀ p, (lftA A).getLast? = some p → p.u = true := by
    rcases left_cases A b.off with ⟨e1, _, _, hl⟩ | ⟨X, p, e0, hp, e1, _⟩
    · rw [e1]; exact ⟨h1.1, hl⟩
    · have h2 := h1.1
      rw [e0] at h2
      have h3 := mg_append.1 h2
      rw [e1]
      exact ⟨h3.1, fun q hq => (h3.2.2 q p hq rfl).resolve_right (by rw [hp]; decide)⟩
  have hC : Mg (rgtC C) ∧ ∀ c, (rgtC C).head? = some c → c.u = true := by
    rcases right_cases C with ⟨e1, _, hl⟩ | ⟨c, r, e0, hc, e1, _⟩
    · rw [e1]; exact ⟨h1.2.1.tail, hl⟩
    · have h2 := h1.2.1.tail
      rw [e0] at h2
      rw [e1]
      refine ⟨h2.tail, fun q hq => ?_⟩
      cases r with
      | nil => cases hq
      | cons d t =>
        rw [List.head?_cons] at hq
        injection hq with hq
        rw [← hq]
        exact (mg_cons.1 h2).1.resolve_left (by rw [hc]; decide)
  have h3 : Mg (x :: rgtC C) := (mg_append (bs := [x]) (cs := rgtC C)).2 ⟨trivial, hC.1, fun p c _ hc => .inr (hC.2 c hc)⟩
  exact mg_append.2 ⟨hA.1, h3, fun p c hp hc => .inl (hA.2 p hp)⟩
end
end Go.Proofs.YtcbdbflgfhbikaaGreat
namespace Go.Proofs.YtcbdbflgfhbikaaGreat
open Go.RowKit
section
variable {f g : Nat → Nat} {E lo sz : Nat} {A C : List Blk} {b : Blk} {L : Nat → List Nat}
theorem free_al (h : Told f E 3776 (A ++ b :: C) E) : lowA A b.off % 16 = 0 ∧ 3776 ≤ lowA A b.off ∧ addA A % 16 = 0 ∧ addC C % 16 = 0 ∧ b.s % 16 = 0 ∧ 48 ≤ b.s ∧ b.off + b.s + addC C ≤ E := by
  have hb := h.is b (by simp)
  have h1 : lowA A b.off % 16 = 0 ∧ 3776 ≤ lowA A b.off ∧ addA A % 16 = 0 := by
    rcases left_cases A b.off with ⟨_, e2, e3, _⟩ | ⟨X, p, e0, hp, _, e2, e3⟩
    · rw [e2, e3]; exact ⟨hb.al, hb.lo, rfl⟩
    · have hq := h.is p (by rw [e0]; simp)
      rw [e2, e3]; exact ⟨hq.al, hq.lo, hq.size.2⟩
  have h2 : addC C % 16 = 0 := by
    rcases right_cases C with ⟨_, e2, _⟩ | ⟨c, r, e0, hc, _, e2⟩
    · rw [e2]
    · have hq := h.is c (by rw [e0]; simp)
      rw [e2]; exact hq.size.2
  obtain ⟨X, _, _, h3, _⟩ := free_told h
  exact ⟨h1.1, h1.2.1, h1.2.2, h2, hb.size.2, hb.size.1, h3.le⟩
theorem free_heap (hF : HeapF f E (A ++ b :: C)) (hlo : lowA A b.off = lo) (hsz : addA A + b.s + addC C = sz) (hS : Stay f g lo (lo + sz) (freesB (lftA A) ++ freesB (rgtC C))) (e1 : g lo = packN sz false 0) (e2 : g (lo + sz - 8) = packN sz false 0)
    (hH : Hung g ((freesB (lftA A) ++ freesB (rgtC C)) ++ [lo])) : HeapF g E (lftA A ++ freeB lo sz :: rgtC C) := by
  obtain ⟨X, e3, h1, h2, h3⟩ := free_told hF.told
  obtain ⟨a1, a2, a3, a4, a5, a6, a7⟩ := free_al hF.told
  have hF' := hF
  rw [e3] at hF'
  rw [hlo] at h1 h3 a1 a2
  have e4 : b.off + b.s + addC C = lo + sz := by omega
  rw [e4] at h2 a7
  have hb : BkIs g E (freeB lo sz) := free_is (by omega) (by omega) a1 a2 a7 hF.low e1 e2
  refine hF'.swap (Y := [freeB lo sz]) h1 h2 hS ⟨rfl, hb, rfl⟩ (by omega) (hH.perm ?_)
  rw [freesB_append, freesB_append, show freesB [freeB lo sz] = [lo] from rfl, List.append_assoc]
  exact List.Perm.append_left _ List.perm_append_comm
theorem free_sound (h : SoundF f E (A ++ b :: C) L) (hF : HeapF g E (lftA A ++ freeB lo sz :: rgtC C)) {L' : Nat → List Nat} (hl : Ledg (usedB A ++ usedB C) g L')
    (hw : ∀ x ∈ A ++ b :: C, x ≠ b → x.u = true → ∀ c, c < 8 → (x.off ∈ L' c ↔ x.off ∈ L c)) : SoundF g E (lftA A ++ freeB lo sz :: rgtC C) L' := by
  have hu : usedB (lftA A ++ freeB lo sz :: rgtC C) = usedB A ++ usedB C := by
    rw [usedB_append, show usedB (freeB lo sz :: rgtC C) = usedB (rgtC C) by unfold usedB freeB; simp, (free_used (A := A) (C := C)).1, (free_used (A := A) (C := C)).2]
  refine hF.sound (free_merged h.merged _) (by rw [hu]; exact hl) fun x hx hxu c hc => ?_
  have hx' : x ∈ lftA A ∨ x ∈ rgtC C := by
    rcases List.mem_append.1 hx with h1 | h1
    · exact .inl h1
    · rcases List.mem_cons.1 h1 with h2 | h2
      · rw [h2] at hxu; cases hxu
      · exact .inr h2
  obtain ⟨X, e3, h1, h2, h3⟩ := free_told h.told
  have hin : x ∈ A ++ b :: C := by
    rw [e3]
    rcases hx' with h4 | h4
    · exact List.mem_append_left _ h4
    · exact List.mem_append_right _ (List.mem_append_right _ h4)
  have hb := h.told.is b (by simp)
  have hne : x ≠ b := fun e => by
    obtain ⟨a1, a2, a3, a4, a5, a6, a7⟩ := free_al h.told
    rcases hx' with h4 | h4
    · have h5 := (h1.within x h4).2
      have h6 := (h.told.is x hin).size.1
      rw [e] at h5
      omega
    · have h5 := (h2.within x h4).1
      rw [e] at h5
      omega
  rw [hw x hin hne hxu c hc]
  exact h.whose x hin hxu c hc
end
end Go.Proofs.YtcbdbflgfhbikaaGreat
namespace Go.Proofs.YtcbdbflgfhbikaaGreat
open Go.RowKit
section
variable {f g : Nat → Nat} {E k : Nat} {A C : List Blk} {b : Blk} {L : Nat → List Nat}
theorem cutk_heap (hF : HeapF f E (A ++ b :: C)) (hu : b.u = true) (hk : k % 16 = 0) (hk48 : 48 ≤ k) (hn : b.n + 40 ≤ k) (hr : k + 48 ≤ b.s) (ho : ∃ o : Nat, o ≤ 8 ∧ b.o = (o : Int))
    (hS : Stay f g b.off (b.off + b.s + addC C) (freesB A ++ freesB (rgtC C))) (e1 : g b.off = packN k true b.o) (e2 : g (b.off + k - 8) = packN k true b.o) (e3 : g (b.off + 8) = b.n)
    (e4 : g (b.off + k) = packN (b.s - k + addC C) false 0) (e5 : g (b.off + b.s + addC C - 8) = packN (b.s - k + addC C) false 0)
    (hH : Hung g ((freesB A ++ freesB (rgtC C)) ++ [b.off + k])) : HeapF g E (A ++ (⟨b.off, k, true, b.o, b.n⟩ :: freeB (b.off + k) (b.s - k + addC C) :: rgtC C)) := by
  obtain ⟨a1, a2, a3, a4, a5, a6, a7⟩ := free_al hF.told
  have hb := hF.told.is b (by simp)
  have hal := hb.al
  have hlo := hb.lo
  obtain ⟨m, hA, e, _, hC⟩ := told_append.1 hF.told
  have e' : b.off = m := e
  subst e'
  obtain ⟨Q, e6, h3⟩ : ∃ Q, C = Q ++ rgtC C ∧ Told f E (b.off + b.s + addC C) (rgtC C) E := by
    rcases right_cases C with ⟨e1, e2, _⟩ | ⟨c, r, e0, hc, e1, e2⟩
    · exact ⟨[], by rw [e1]; rfl, by rw [e1, e2]; exact hC⟩
    · rw [e0] at hC
      obtain ⟨e4, _, h2⟩ := hC
      exact ⟨[c], by rw [e1]; exact e0, by rw [e1, e2]; exact h2⟩
  have hF' := hF
  have e7 : A ++ b :: C = A ++ ((b :: Q) ++ rgtC C) := by rw [List.cons_append, ← e6]
  rw [e7] at hF'
  obtain ⟨o, ho8, ho⟩ := ho
  have hb1 : BkIs g E ⟨b.off, k, true, b.o, b.n⟩ := by
    rw [ho] at e1 e2 ⊢
    exact used_is hk hk48 hal hlo (by omega) hF.low ho8 e1 e2 e3 hn
  have hb2 : BkIs g E (freeB (b.off + k) (b.s - k + addC C)) := by
    refine free_is (by omega) (by omega) (by omega) (by omega) (by omega) hF.low e4 ?_
    rw [show b.off + k + (b.s - k + addC C) - 8 = b.off + b.s + addC C - 8 by omega]
    exact e5
  refine hF'.swap (Y := [⟨b.off, k, true, b.o, b.n⟩, freeB (b.off + k) (b.s - k + addC C)]) hA h3 hS ⟨rfl, hb1, rfl, hb2, ?_⟩ (by omega) (hH.perm ?_)
  · show b.off + k + (b.s - k + addC C) = b.off + b.s + addC C
    omega
  · rw [freesB_append, freesB_append, show freesB [(⟨b.off, k, true, b.o, b.n⟩ : Blk), freeB (b.off + k) (b.s - k + addC C)] = [b.off + k] from rfl, List.append_assoc]
    exact List.Perm.append_left _ List.perm_append_comm
end
end Go.Proofs.YtcbdbflgfhbikaaGreat
namespace Go.Proofs.YtcbdbflgfhbikaaGreat
open Go.RowKit
set_option maxRecDepth 100000
def payL (bs : List Blk) : List Nat := (usedB bs).map (· + 32)
def payB (bs : List Blk) (k : Nat) : Nat := (payL bs).getD (k % (payL bs).length) 0
theorem payL_take (bs : List Blk) {k : Nat} (h : k < bs.length) : payL (bs.take (k + 1)) = if gU bs k = true then payL (bs.take k) ++ [gO bs k + 32] else payL (bs.take k) := by
  have e : bs.take (k + 1) = bs.take k ++ [bs.getD k default] := by
    rw [List.take_succ_eq_append_getElem h, List.getD_eq_getElem?_getD, List.getElem?_eq_getElem h]
    rfl
  unfold payL
  rw [e, usedB_append]
  unfold gU gO
  obtain ⟨x, hx⟩ : ∃ x, bs.getD k default = x := ⟨_, rfl⟩
  rw [hx]
  cases hu : x.u with
  | true => simp [usedB, hu]
  | false => simp [usedB, hu]
theorem payL_len (bs : List Blk) : (payL bs).length ≤ bs.length := by
  unfold payL usedB
  rw [List.length_map, List.length_map]
  exact List.length_filter_le _ _
set_option maxHeartbeats 4000000 in
theorem rplace11_any {w : World} {base : Nat} {v : Value} {E : Nat} {bs : List Blk} {L : Nat → List Nat} (h : HvIs w base v E bs L) (hn : bs.length ≤ 1000000) (p : Nat) :
    Calls Tryz.prog 23 #[v, .int .u64 p] w fun e w' => e = .returned (.int .i64 (fstZ (pF p) bs)) ∧ w.grownBy w' none := by
  obtain ⟨b, vs, rfl, ho, hl⟩ := h.is
  obtain ⟨la, c, rfl, hb⟩ := ho.at_
  obtain ⟨n, hn'⟩ : ∃ n, bs.length = n := ⟨_, rfl⟩
  rw [hn'] at hn ⊢
  have hg0 : w.grownBy (w.alloc (.cells #[.int .u64 E, .slice la n c, vs 0, vs 1, vs 2, vs 3, vs 4, vs 5, vs 6, vs 7] 30)) none := World.grownBy_alloc _ _ _
  have hbx : ∀ V : World, (w.alloc (.cells #[.int .u64 E, .slice la n c, vs 0, vs 1, vs 2, vs 3, vs 4, vs 5, vs 6, vs 7] 30)).grownBy V none → V.cell? ⟨w.heap.size, 1, none⟩ = some (.slice la n c) := fun V hg => by
    have := (hg.block _ (by simp) (by simp)).trans (heap_alloc_new' w (.cells #[.int .u64 E, .slice la n c, vs 0, vs 1, vs 2, vs 3, vs 4, vs 5, vs 6, vs 7] 30))
    simp [World.cell?, this]
  have hbl := fun (V : World) (hg : w.grownBy V none) => hb.later hg
  have HN := Lib.hid hn'
  have HBL := Lib.hid hbl
  clear ho hl hb hn' hbl h
  unfold heapV
  go_enter Tryz.func23, Tryz.ntmps23
  go_wp2
  obtain ⟨W0, hW0⟩ : ∃ W0, w.alloc (.cells #[.int .u64 E, .slice la n c, vs 0, vs 1, vs 2, vs 3, vs 4, vs 5, vs 6, vs 7] 30) = W0 := ⟨_, rfl⟩
  rw [hW0] at hg0 hbx ⊢
  have HBX := Lib.hid hbx
  have HG0 := Lib.hid hg0
  clear hbx hW0 hg0
  go_loopw [5] (fun i wr => ∃ k : Nat, k ≤ n ∧ i = .int .i64 k ∧ Hid (∀ j, j < k → pF p (bs.getD j default) = false) ∧ wr = W0) (fun i _ => n - (intOf i).toNat)
  case atStart => exact ⟨0, Nat.zero_le _, rfl, Lib.hid (fun j hj => absurd hj (Nat.not_lt_zero _)), rfl⟩
  case round =>
    obtain ⟨k, hk, rfl, HJ, rfl⟩ := hrel
    have q0 := HBX.out wr (grown_refl _ _)
    rcases Nat.lt_or_ge k n with h1 | h1
    · have h1' : (k : Int) < (n : Int) := by omega
      obtain ⟨bb, off, rfl, hbb, hcs⟩ := (HBL.out wr HG0.out).cells (by rw [HN.out]; omega)
      obtain ⟨c0, _, c2, _, _⟩ := hcs k (by rw [HN.out]; exact h1)
      obtain ⟨x, hx⟩ : ∃ x, gO bs k = x := ⟨_, rfl⟩
      obtain ⟨u, hu⟩ : ∃ u, gU bs k = u := ⟨_, rfl⟩
      have hp : pF p (bs.getD k default) = (u && decide ((x + 32) % 18446744073709551616 = p)) := by rw [← hx, ← hu]; rfl
      rw [hx] at c0
      rw [hu] at c2
      have HX := Lib.hid hp
      clear hcs hx hu hp
      cases u with
      | false =>
        go_wp2
        go_roundw
        case rel =>
          refine ⟨k + 1, by omega, by go_num, Lib.hid fun j hj => ?_, trivial⟩
          rcases Nat.lt_or_ge j k with h' | h'
          · exact HJ.out j h'
          · obtain rfl : j = k := by omega
            rw [HX.out]; rfl
        case measure => simp [intOf]; omega
      | true =>
        obtain ⟨y, hy⟩ : ∃ y, (x + 32) % 18446744073709551616 = y := ⟨_, rfl⟩
        have e32 : IntKind.u64.wrap ((x : Int) + 32) = (y : Nat) := by rw [IntKind.wrap_u64]; omega
        have HY := Lib.hid hy
        clear hy
        by_cases e : y = p
        · subst e
          go_wp2
          go_ret
          exact ⟨congrArg (fun z => Ending.returned (.int .i64 z)) (fstZ_is (p := pF y) (l := bs) (by rw [HN.out]; exact h1) (by rw [HX.out, HY.out]; simp) HJ.out), HG0.out⟩
        · have e1 : ((y : Int) == (p : Int)) = false := by simpa using fun h => e (by omega)
          have e2 : ¬ (y : Int) = (p : Int) := by omega
          go_wp2
          go_roundw
          case rel =>
            refine ⟨k + 1, by omega, by go_num, Lib.hid fun j hj => ?_, trivial⟩
            rcases Nat.lt_or_ge j k with h' | h'
            · exact HJ.out j h'
            · obtain rfl : j = k := by omega
              rw [HX.out, HY.out, decide_eq_false e, Bool.and_false]
          case measure => simp [intOf]; omega
    · obtain rfl : k = n := by omega
      go_wp2
      go_ret
      exact ⟨congrArg (fun z => Ending.returned (.int .i64 z)) (fstZ_not (p := pF p) (l := bs) (by rw [HN.out]; exact HJ.out)), HG0.out⟩
set_option maxHeartbeats 4000000 in
theorem rpayload10_any {w : World} {base : Nat} {v : Value} {E : Nat} {bs : List Blk} {L : Nat → List Nat} (h : HvIs w base v E bs L) (hn : bs.length ≤ 1000) (hbd : Bounds bs) (q : Nat) (hq : q < 1000) :
    Calls Tryz.prog 13 #[v, .int .i64 q] w fun e w' => e = .returned (.int .u64 (payB bs q : Nat)) ∧ w.grownBy w' none := by
  obtain ⟨b, vs, rfl, ho, hl⟩ := h.is
  obtain ⟨la, c, rfl, hb⟩ := ho.at_
  obtain ⟨n, hn'⟩ : ∃ n, bs.length = n := ⟨_, rfl⟩
  rw [hn'] at hn ⊢
  have hg0 : w.grownBy (w.alloc (.cells #[.int .u64 E, .slice la n c, vs 0, vs 1, vs 2, vs 3, vs 4, vs 5, vs 6, vs 7] 30)) none := World.grownBy_alloc _ _ _
  have hbx : ∀ V : World, (w.alloc (.cells #[.int .u64 E, .slice la n c, vs 0, vs 1, vs 2, vs 3, vs 4, vs 5, vs 6, vs 7] 30)).grownBy V none → V.cell? ⟨w.heap.size, 1, none⟩ = some (.slice la n c) := fun V hg => by
    have := (hg.block _ (by simp) (by simp)).trans (heap_alloc_new' w (.cells #[.int .u64 E, .slice la n c, vs 0, vs 1, vs 2, vs 3, vs 4, vs 5, vs 6, vs 7] 30))
    simp [World.cell?, this]
  have hbl := fun (V : World) (hg : w.grownBy V none) => hb.later hg
  have HN := Lib.hid hn'
  have HBL := Lib.hid hbl
  have HBD := Lib.hid hbd
  clear ho hl hb hn' hbl h hbd
  obtain ⟨z, hz⟩ : ∃ z, payB bs q = z := ⟨_, rfl⟩
  rw [hz]
  have HZ := Lib.hid hz
  clear hz
  unfold heapV
  go_enter Tryz.func13, Tryz.ntmps13
  go_wp2
  obtain ⟨W0, hW0⟩ : ∃ W0, w.alloc (.cells #[.int .u64 E, .slice la n c, vs 0, vs 1, vs 2, vs 3, vs 4, vs 5, vs 6, vs 7] 30) = W0 := ⟨_, rfl⟩
  rw [hW0] at hg0 hbx ⊢
  have HBX := Lib.hid hbx
  have HG0 := Lib.hid hg0
  have hsz0 := hg0.size
  clear hbx hW0 hg0
  go_loopw [6, 5] (fun i v wr => ∃ k : Nat, k ≤ n ∧ i = .int .i64 k ∧ OwnW wr W0.heap.size v (payL (bs.take k)) ∧ W0.grownBy wr none) (fun i _ _ => n - (intOf i).toNat)
  case atStart => exact ⟨0, Nat.zero_le _, rfl, World.ownsRow_nil _ _ _ _, grown_refl _ _⟩
  case round =>
    obtain ⟨k, hk, rfl, hown, hgr⟩ := hrel
    have q0 := HBX.out wr hgr
    have hsw := hgr.size
    rcases Nat.lt_or_ge k n with h1 | h1
    · have h1' : (k : Int) < (n : Int) := by omega
      obtain ⟨bb, off, rfl, hbb, hcs⟩ := (HBL.out wr (grown_trans HG0.out hgr)).cells (by rw [HN.out]; omega)
      obtain ⟨c0, _, c2, _, _⟩ := hcs k (by rw [HN.out]; exact h1)
      have hnext := payL_take bs (k := k) (by rw [HN.out]; exact h1)
      have hflen := payL_len (bs.take k)
      have hbk := HBD.out k (by rw [HN.out]; exact h1)
      rw [List.length_take, HN.out] at hflen
      obtain ⟨x, hx⟩ : ∃ x, gO bs k = x := ⟨_, rfl⟩
      obtain ⟨fl, hfl⟩ : ∃ fl, payL (bs.take k) = fl := ⟨_, rfl⟩
      rw [hx] at c0 hnext hbk
      rw [hfl] at hown hnext hflen
      have e32 : IntKind.u64.wrap ((x : Int) + 32) = ((x + 32 : Nat) : Int) := by rw [IntKind.wrap_u64]; omega
      obtain ⟨y, ey⟩ : ∃ y, x + 32 = y := ⟨_, rfl⟩
      rw [ey] at e32 hnext
      have HOWN := Lib.hid hown
      cases hu : gU bs k with
      | false =>
        rw [hu] at c2 hnext
        rw [if_neg (by simp)] at hnext
        have HNX := Lib.hid hnext
        clear hnext hcs hx hfl hown hu ey hbk
        go_wp2
        go_roundw
        case rel => exact ⟨k + 1, by omega, by go_num, by rw [HNX.out]; exact HOWN.out, hgr⟩
        case measure => simp [intOf]; omega
      | true =>
        rw [hu] at c2 hnext
        rw [if_pos rfl] at hnext
        have HNX := Lib.hid hnext
        clear hnext hcs hx hfl hown hu ey hbk
        go_wp2_with (at_builtin; go_must (refine wpList_append_num rfl _ _ rfl W0.heap.size _ fl rfl HOWN.out y rfl (by omega) (by omega) ?_); intro v8 w8 hown8 hg8 hloc8)
        go_roundw
        case rel => exact ⟨k + 1, by omega, by go_num, by rw [HNX.out]; exact hown8, grown_step hgr hg8 (fun i hi => .inl (World.ownsRow.lt HOWN.out i hi).1)⟩
        case measure => simp [intOf]; omega
    · obtain rfl : k = n := by omega
      rw [← HN.out, List.take_length] at hown
      have hz := HZ.out
      unfold payB at hz
      obtain ⟨fl, hfl⟩ : ∃ fl, payL bs = fl := ⟨_, rfl⟩
      have hlen := payL_len bs
      rw [hfl] at hown hlen hz
      rw [HN.out] at hlen
      obtain ⟨fa, fc, g, hfv, hfa, hat⟩ := hown.addr
      subst hfv
      have hat1 := hat wr hown
      obtain ⟨m, hm⟩ : ∃ m, fl.length = m := ⟨_, rfl⟩
      rw [hm] at hfa hat1 hlen hz ⊢
      clear hat hown hfl
      rcases Nat.eq_zero_or_pos m with h0 | h0
      · subst h0
        have e0 : fl.getD (q % 0) 0 = 0 := by rw [List.getD_eq_getElem?_getD, List.getElem?_eq_none (by omega)]; rfl
        rw [e0] at hz
        subst hz
        clear e0 hat1 hfa hm HZ
        go_wp2
        go_ret
        exact ⟨rfl, grown_trans HG0.out hgr⟩
      · have hfa1 := hfa h0
        subst hfa1
        have hlt := Nat.mod_lt q h0
        have c0 := hat1 (q % m) hlt
        have em : (q : Int).tmod (m : Int) = ((q % m : Nat) : Int) := by rw [Int.tmod_eq_emod_of_nonneg (by omega)]; omega
        have m0 : ¬ (m : Int) = 0 := by omega
        have mb : ((m : Int) == 0) = false := by simpa using m0
        obtain ⟨r, hr⟩ : ∃ r, q % m = r := ⟨_, rfl⟩
        rw [hr] at c0 em hlt hz
        rw [hz] at c0
        clear hat1 hr hz hfa hm HZ
        go_wp2
        go_ret
        exact ⟨rfl, grown_trans HG0.out hgr⟩
end Go.Proofs.YtcbdbflgfhbikaaGreat
