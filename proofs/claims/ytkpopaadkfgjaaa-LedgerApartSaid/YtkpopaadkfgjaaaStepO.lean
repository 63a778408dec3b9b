/-
  Arguments that are steps of layer 9 (two bytes), lists of them, lists of bools and of words, opened.
  No condition.
-/
import Derived.Test.YtkpopaadkfgjaaaLTx
import Derived.Test.YtkpopaadkfgjaaaTreeW
import Derived.Test.YtkpopaadkfgjaaaPhysO
namespace Go.Proofs.Ytkpopaadkfgjaaa
open Go.ChangeShapes Go.WideShapes Go.ChangeAt Go.RowKit Go.Deep
set_option linter.unusedVariables false
set_option linter.unusedSimpArgs false
set_option maxRecDepth 100000

theorem cells_step : Try.prog.cellsOf 52 = 2 := by kernel_rfl
theorem cells_byte9 : Try.prog.cellsOf 5 = 1 := by kernel_rfl
theorem nat_byte9 {x : Int} (h : (Lit.int .u8 x).wf = true) : ∃ n : Nat, x = n ∧ n < 256 := by
  have h1 : IntKind.u8.min = 0 := rfl
  have h2 : IntKind.u8.max = 255 := rfl
  simp only [Lit.wf, Bool.and_eq_true, decide_eq_true_eq] at h
  exact ⟨x.toNat, by omega, by omega⟩
theorem cells_bool9 : Try.prog.cellsOf 4 = 1 := by kernel_rfl
theorem cells_word9 : Try.prog.cellsOf 30 = 1 := by kernel_rfl
/-- Pairs of bytes lie in memory. -/
structure StepsAt (w : World) (la : Option Addr) (n : Nat) (A B : Nat → Nat) : Prop where
  lt : ∀ i, A i < 256 ∧ B i < 256
  cells : 0 < n → ∃ b off, la = some ⟨b, off, none⟩ ∧ b < w.heap.size ∧ ∀ i, i < n → w.cell? ⟨b, off + i * 2, none⟩ = some (.int .u8 (A i : Nat)) ∧ w.cell? ⟨b, off + i * 2 + 1, none⟩ = some (.int .u8 (B i : Nat))
theorem StepsAt.later {w w' : World} {la : Option Addr} {n : Nat} {A B : Nat → Nat} (h : StepsAt w la n A B) (hg : w.grownBy w' none) : StepsAt w' la n A B where
  lt := h.lt
  cells := fun hn => by
    obtain ⟨b, off, h1, h2, h3⟩ := h.cells hn
    refine ⟨b, off, h1, Nat.lt_of_lt_of_le h2 hg.size, fun i hi => ?_⟩
    have hb := hg.block b h2 (by simp)
    obtain ⟨c0, c1⟩ := h3 i hi
    exact ⟨(World.cell?_of_block (w := w) (a := ⟨b, off + i * 2, none⟩) hb).trans c0, (World.cell?_of_block (w := w) (a := ⟨b, off + i * 2 + 1, none⟩) hb).trans c1⟩
/-- Bools lie in memory. -/
structure BoolsAt (w : World) (la : Option Addr) (n : Nat) (A : Nat → Bool) : Prop where
  cells : 0 < n → ∃ b off, la = some ⟨b, off, none⟩ ∧ b < w.heap.size ∧ ∀ i, i < n → w.cell? ⟨b, off + i, none⟩ = some (.bool (A i))
theorem BoolsAt.later {w w' : World} {la : Option Addr} {n : Nat} {A : Nat → Bool} (h : BoolsAt w la n A) (hg : w.grownBy w' none) : BoolsAt w' la n A where
  cells := fun hn => by
    obtain ⟨b, off, h1, h2, h3⟩ := h.cells hn
    exact ⟨b, off, h1, Nat.lt_of_lt_of_le h2 hg.size, fun i hi => (World.cell?_of_block (w := w) (a := ⟨b, off + i, none⟩) (hg.block b h2 (by simp))).trans (h3 i hi)⟩
section
variable {H : Type} {enc : TypeId × Value → H} {w : World}
theorem open_step {r : Reach} {b0 : Nat} {v : Value} {d : DataW H} {p : List MemPlace} (hv : Value.okWide Try.prog w r b0 52 v) (h : DataW.Trod enc Try.prog w 0 (fun _ => true) true 52 v d p) :
    ∃ x y : Nat, v = .agg #[.int .u8 x, .int .u8 y] ∧ x < 256 ∧ y < 256 := by
  obtain ⟨v0, v1, y0, y1, n, rfl, _, _, t0, t1⟩ := Joins.open_agg2 Try.underlying52 (by kernel_rfl) cells_step hv h
  obtain ⟨k0, e0, _, w0⟩ := DataW.trod_int Try.underlying5 t0
  obtain ⟨k1, e1, _, w1⟩ := DataW.trod_int Try.underlying5 t1
  simp only [List.cons.injEq, and_true] at e0 e1
  obtain ⟨x, rfl, hx⟩ := nat_byte9 w0
  obtain ⟨y, rfl, hy⟩ := nat_byte9 w1
  exact ⟨x, y, by rw [e0, e1], hx, hy⟩
theorem step_fields {n : Nat} {cs : List Value} {x : DataW H × List MemPlace} (h : DataW.trod enc Try.prog w 0 (fun _ => true) true n 52 cs = some x) :
    ∃ a b : Nat, cs = [.int .u8 a, .int .u8 b] ∧ a < 256 ∧ b < 256 := by
  obtain ⟨xs, k, _, _, hcl, hxl, hf⟩ := DataW.trod_struct Try.underlying52 h
  rw [cells_step] at hcl
  match xs, hxl, cs, hcl with
  | [y0, y1], _, [v0, v1], _ =>
    have g0 := hf 0 _ rfl
    have g1 := hf 1 _ rfl
    simp [cells_byte9] at g0 g1
    obtain ⟨k0, e0, _, w0⟩ := DataW.trod_int Try.underlying5 g0
    obtain ⟨k1, e1, _, w1⟩ := DataW.trod_int Try.underlying5 g1
    simp only [List.cons.injEq, and_true] at e0 e1
    obtain ⟨x, rfl, hx⟩ := nat_byte9 w0
    obtain ⟨y, rfl, hy⟩ := nat_byte9 w1
    exact ⟨x, y, by rw [e0, e1], hx, hy⟩
theorem open_steps {r : Reach} {b0 : Nat} {v : Value} {d : DataW H} {p : List MemPlace} (hv : Value.okWide Try.prog w r b0 35 v) (h : DataW.Trod enc Try.prog w 0 (fun _ => true) true 35 v d p) :
    ∃ la n c A B, v = .slice la n c ∧ n ≤ c ∧ n ≤ maxLen ∧ StepsAt w la n A B := by
  obtain ⟨a0, l0, c0, rfl⟩ := okWide_slice Try.underlying35 hv
  obtain ⟨fuel, hf⟩ := h
  rcases open_slice Try.underlying35 hf with ⟨h0, _⟩ | ⟨a, len, cap, m, n, D, Pl, hcs, _, hl, hm, hmeq, hx, hall⟩
  · simp [Value.cells] at h0
    obtain ⟨rfl, rfl, rfl⟩ := h0
    exact ⟨none, 0, 0, fun _ => 0, fun _ => 0, rfl, Nat.le_refl _, Nat.zero_le _, ⟨fun _ => ⟨by decide, by decide⟩, fun h => by omega⟩⟩
  · simp [Value.cells] at hcs
    obtain ⟨rfl, rfl, rfl⟩ := hcs
    simp only [if_true] at hmeq
    subst hmeq
    have key : ∀ i, i < l0 → ∃ x y : Nat, w.cell? (a.add (i * 2)) = some (.int .u8 (x : Nat)) ∧ w.cell? (a.add (i * 2 + 1)) = some (.int .u8 (y : Nat)) ∧ x < 256 ∧ y < 256 := by
      intro i hi
      obtain ⟨cs, h1, h2⟩ := hall i (by omega)
      rw [cells_step] at h1
      obtain ⟨_, hlen, hcell⟩ := World.cells?_some h1
      obtain ⟨x, y, rfl, hx, hy⟩ := step_fields h2
      have e0 := hcell 0 (by omega)
      have e1 := hcell 1 (by omega)
      rw [add_add] at e0 e1
      exact ⟨x, y, by simpa using e0, by simpa using e1, hx, hy⟩
    obtain ⟨q, hq⟩ := choose_lt (α := Nat × Nat) (p := fun i q => w.cell? (a.add (i * 2)) = some (.int .u8 (q.1 : Nat)) ∧ w.cell? (a.add (i * 2 + 1)) = some (.int .u8 (q.2 : Nat)) ∧ q.1 < 256 ∧ q.2 < 256) (fun i hi => by
      obtain ⟨x, y, h⟩ := key i hi
      exact ⟨(x, y), h⟩)
    refine ⟨some a, l0, m, fun i => if i < l0 then (q i).1 else 0, fun i => if i < l0 then (q i).2 else 0, rfl, hl, Nat.le_trans hl hm, ⟨fun i => ?_, fun hn => ?_⟩⟩
    · by_cases hi : i < l0
      · simp only [hi, if_true]
        exact (hq i hi).2.2
      · simp only [hi, if_false]
        exact ⟨by decide, by decide⟩
    · obtain ⟨b, off, rfl, hb⟩ := plain_spot (hq 0 hn).1
      have hadd : ∀ j, (⟨b, off, none⟩ : Addr).add j = ⟨b, off + j, none⟩ := fun j => by unfold Addr.add; split <;> simp_all
      refine ⟨b, off, rfl, hb, fun i hi => ?_⟩
      obtain ⟨c0, c1, _⟩ := hq i hi
      rw [hadd] at c0 c1
      simp only [hi, if_true]
      exact ⟨c0, by rw [Nat.add_assoc]; exact c1⟩
theorem open_words9 {r : Reach} {b0 : Nat} {v : Value} {d : DataW H} {p : List MemPlace} (hv : Value.okWide Try.prog w r b0 23 v) (h : DataW.Trod enc Try.prog w 0 (fun _ => true) true 23 v d p) :
    ∃ la c xs, v = .slice la xs.length c ∧ xs.length ≤ c ∧ xs.length ≤ maxLen ∧ (∀ i, xs.getD i 0 < 18446744073709551616) ∧ WordsAt w la xs := by
  obtain ⟨a0, l0, c0, rfl⟩ := okWide_slice Try.underlying23 hv
  obtain ⟨fuel, hf⟩ := h
  rcases open_slice Try.underlying23 hf with ⟨h0, _⟩ | ⟨a, len, cap, m, n, D, Pl, hcs, _, hl, hm, hmeq, hx, hall⟩
  · simp [Value.cells] at h0
    obtain ⟨rfl, rfl, rfl⟩ := h0
    exact ⟨none, 0, [], rfl, Nat.le_refl _, Nat.zero_le _, fun i => by simp, ⟨fun h => by simp at h⟩⟩
  · simp [Value.cells] at hcs
    obtain ⟨rfl, rfl, rfl⟩ := hcs
    simp only [if_true] at hmeq
    subst hmeq
    have key : ∀ i, i < l0 → ∃ x : Nat, w.cell? (a.add i) = some (.int .u64 (x : Nat)) ∧ x < 18446744073709551616 := by
      intro i hi
      obtain ⟨cs, h1, h2⟩ := hall i (by omega)
      rw [cells_word9, Nat.mul_one] at h1
      obtain ⟨_, hlen, hcell⟩ := World.cells?_some h1
      obtain ⟨k0, g0, _, w0⟩ := DataW.trod_int Try.underlying30 h2
      have b0 := bounds_u64 w0
      obtain ⟨x, rfl⟩ := Int.eq_ofNat_of_zero_le b0.1
      have e0 := hcell 0 (by omega)
      rw [add_add, Nat.add_zero] at e0
      rw [g0] at e0
      exact ⟨x, by simpa using e0, by omega⟩
    obtain ⟨q, hq⟩ := choose_lt (α := Nat) (p := fun i q => w.cell? (a.add i) = some (.int .u64 (q : Nat)) ∧ q < 18446744073709551616) key
    have hlen : ((List.range l0).map q).length = l0 := by simp
    have hget : ∀ i, i < l0 → ((List.range l0).map q).getD i 0 = q i := fun i hi => by
      rw [List.getD_eq_getElem?_getD, List.getElem?_map, List.getElem?_range hi]
      rfl
    refine ⟨some a, m, (List.range l0).map q, by rw [hlen], by rw [hlen]; exact hl, by rw [hlen]; exact Nat.le_trans hl hm, fun i => ?_, ⟨fun hn => ?_⟩⟩
    · by_cases hi : i < l0
      · rw [hget i hi]
        exact (hq i hi).2
      · rw [List.getD_eq_getElem?_getD, List.getElem?_eq_none (by rw [hlen]; omega)]
        decide
    · rw [hlen] at hn
      obtain ⟨b, off, rfl, hb⟩ := plain_spot (hq 0 hn).1
      have hadd : ∀ j, (⟨b, off, none⟩ : Addr).add j = ⟨b, off + j, none⟩ := fun j => by unfold Addr.add; split <;> simp_all
      refine ⟨b, off, rfl, hb, fun i hi => ?_⟩
      rw [hlen] at hi
      obtain ⟨c0, _⟩ := hq i hi
      rw [hadd] at c0
      rw [hget i hi]
      exact c0
end
end Go.Proofs.Ytkpopaadkfgjaaa
