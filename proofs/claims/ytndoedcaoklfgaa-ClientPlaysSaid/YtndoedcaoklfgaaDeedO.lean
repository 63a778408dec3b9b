/-
  Arguments that are deeds of layer 8, lists of them, and a pair of ints, opened.
  No condition.
-/
import Derived.Test.YtndoedcaoklfgaaPutO
namespace Go.Proofs.Ytndoedcaoklfgaa
open Go.ChangeShapes Go.WideShapes Go.ChangeAt Go.RowKit Go.Deep
set_option linter.unusedVariables false
set_option linter.unusedSimpArgs false
set_option maxRecDepth 100000

theorem cells_int8 : Try.prog.cellsOf 3 = 1 := by kernel_rfl
theorem cells_deed : Try.prog.cellsOf 33 = 3 := by kernel_rfl
theorem cells_ipair : Try.prog.cellsOf 51 = 2 := by kernel_rfl
/-- Deeds lie in memory. -/
structure DeedsAt (w : World) (la : Option Addr) (n : Nat) (A B : Nat → Int) (C : Nat → Nat) : Prop where
  lt : ∀ i, C i < 18446744073709551616
  cells : 0 < n → ∃ b off, la = some ⟨b, off, none⟩ ∧ b < w.heap.size ∧ ∀ i, i < n → w.cell? ⟨b, off + i * 3, none⟩ = some (.int .i64 (A i)) ∧ w.cell? ⟨b, off + i * 3 + 1, none⟩ = some (.int .i64 (B i)) ∧ w.cell? ⟨b, off + i * 3 + 2, none⟩ = some (.int .u64 (C i : Nat))
theorem DeedsAt.later {w w' : World} {la : Option Addr} {n : Nat} {A B : Nat → Int} {C : Nat → Nat} (h : DeedsAt w la n A B C) (hg : w.grownBy w' none) : DeedsAt w' la n A B C where
  lt := h.lt
  cells := fun hn => by
    obtain ⟨b, off, h1, h2, h3⟩ := h.cells hn
    refine ⟨b, off, h1, Nat.lt_of_lt_of_le h2 hg.size, fun i hi => ?_⟩
    have hb := hg.block b h2 (by simp)
    obtain ⟨c0, c1, c2⟩ := h3 i hi
    exact ⟨(World.cell?_of_block (w := w) (a := ⟨b, off + i * 3, none⟩) hb).trans c0, (World.cell?_of_block (w := w) (a := ⟨b, off + i * 3 + 1, none⟩) hb).trans c1, (World.cell?_of_block (w := w) (a := ⟨b, off + i * 3 + 2, none⟩) hb).trans c2⟩
section
variable {H : Type} {enc : TypeId × Value → H} {w : World}
theorem open_deed {r : Reach} {b0 : Nat} {v : Value} {d : DataW H} {p : List MemPlace} (hv : Value.okWide Try.prog w r b0 33 v) (h : DataW.Trod enc Try.prog w 0 (fun _ => true) true 33 v d p) :
    ∃ (x y : Int) (z : Nat), v = .agg #[.int .i64 x, .int .i64 y, .int .u64 z] ∧ z < 18446744073709551616 := by
  obtain ⟨v0, v1, v2, y0, y1, y2, n, rfl, _, _, t0, t1, t2⟩ := Joins.open_agg3 Try.underlying33 (by kernel_rfl) cells_deed hv h
  obtain ⟨k0, e0, _, w0⟩ := DataW.trod_int Try.underlying3 t0
  obtain ⟨k1, e1, _, w1⟩ := DataW.trod_int Try.underlying3 t1
  obtain ⟨k2, e2, _, w2⟩ := DataW.trod_int Try.underlying24 t2
  simp only [List.cons.injEq, and_true] at e0 e1 e2
  have b2 := bounds_u64 w2
  obtain ⟨x, rfl⟩ := Int.eq_ofNat_of_zero_le b2.1
  exact ⟨k0, k1, x, by rw [e0, e1, e2], by omega⟩
theorem deed_fields {n : Nat} {cs : List Value} {x : DataW H × List MemPlace} (h : DataW.trod enc Try.prog w 0 (fun _ => true) true n 33 cs = some x) :
    ∃ (a b : Int) (c : Nat), cs = [.int .i64 a, .int .i64 b, .int .u64 c] ∧ c < 18446744073709551616 := by
  obtain ⟨xs, k, _, _, hcl, hxl, hf⟩ := DataW.trod_struct Try.underlying33 h
  rw [cells_deed] at hcl
  match xs, hxl, cs, hcl with
  | [y0, y1, y2], _, [v0, v1, v2], _ =>
    have g0 := hf 0 _ rfl
    have g1 := hf 1 _ rfl
    have g2 := hf 2 _ rfl
    simp [cells_int8, cells_u64] at g0 g1 g2
    obtain ⟨k0, e0, _, w0⟩ := DataW.trod_int Try.underlying3 g0
    obtain ⟨k1, e1, _, w1⟩ := DataW.trod_int Try.underlying3 g1
    obtain ⟨k2, e2, _, w2⟩ := DataW.trod_int Try.underlying24 g2
    simp only [List.cons.injEq, and_true] at e0 e1 e2
    have b2 := bounds_u64 w2
    obtain ⟨z, rfl⟩ := Int.eq_ofNat_of_zero_le b2.1
    exact ⟨k0, k1, z, by rw [e0, e1, e2], by omega⟩
theorem plain_spot8 {a : Addr} {v : Value} (h : w.cell? (a.add 0) = some v) : ∃ b off, a = ⟨b, off, none⟩ ∧ b < w.heap.size := by
  obtain ⟨b, off, spot⟩ := a
  have ho : (⟨b, off, spot⟩ : Addr).add 0 = ⟨b, off, spot⟩ := rfl
  rw [ho] at h
  have hb : b < w.heap.size := by
    rcases Nat.lt_or_ge b w.heap.size with h' | h'
    · exact h'
    · simp [World.cell?, Array.getElem?_eq_none h'] at h
  rcases spot with _ | s
  · exact ⟨b, off, rfl, hb⟩
  · exfalso
    unfold World.cell? at h
    simp only at h
    split at h <;> simp at h
theorem open_deeds {r : Reach} {b0 : Nat} {v : Value} {d : DataW H} {p : List MemPlace} (hv : Value.okWide Try.prog w r b0 23 v) (h : DataW.Trod enc Try.prog w 0 (fun _ => true) true 23 v d p) :
    ∃ la n c A B C, v = .slice la n c ∧ n ≤ maxLen ∧ DeedsAt w la n A B C := by
  obtain ⟨a0, l0, c0, rfl⟩ := okWide_slice Try.underlying23 hv
  obtain ⟨fuel, hf⟩ := h
  rcases open_slice Try.underlying23 hf with ⟨h0, _⟩ | ⟨a, len, cap, m, n, D, Pl, hcs, _, hl, hm, hmeq, hx, hall⟩
  · simp [Value.cells] at h0
    obtain ⟨rfl, rfl, rfl⟩ := h0
    exact ⟨none, 0, 0, fun _ => 0, fun _ => 0, fun _ => 0, rfl, Nat.zero_le _, ⟨fun _ => by decide, fun h => by omega⟩⟩
  · simp [Value.cells] at hcs
    obtain ⟨rfl, rfl, rfl⟩ := hcs
    simp only [if_true] at hmeq
    subst hmeq
    have key : ∀ i, i < l0 → ∃ (x y : Int) (z : Nat), w.cell? (a.add (i * 3)) = some (.int .i64 x) ∧ w.cell? (a.add (i * 3 + 1)) = some (.int .i64 y) ∧ w.cell? (a.add (i * 3 + 2)) = some (.int .u64 (z : Nat)) ∧ z < 18446744073709551616 := by
      intro i hi
      obtain ⟨cs, h1, h2⟩ := hall i (by omega)
      rw [cells_deed] at h1
      obtain ⟨_, hlen, hcell⟩ := World.cells?_some h1
      obtain ⟨x, y, z, rfl, hz⟩ := deed_fields h2
      have e0 := hcell 0 (by omega)
      have e1 := hcell 1 (by omega)
      have e2 := hcell 2 (by omega)
      rw [add_add] at e0 e1 e2
      exact ⟨x, y, z, by simpa using e0, by simpa using e1, by simpa using e2, hz⟩
    obtain ⟨q, hq⟩ := choose_lt (α := Int × Int × Nat) (p := fun i q => w.cell? (a.add (i * 3)) = some (.int .i64 q.1) ∧ w.cell? (a.add (i * 3 + 1)) = some (.int .i64 q.2.1) ∧ w.cell? (a.add (i * 3 + 2)) = some (.int .u64 (q.2.2 : Nat)) ∧ q.2.2 < 18446744073709551616) (fun i hi => by
      obtain ⟨x, y, z, h⟩ := key i hi
      exact ⟨(x, y, z), h⟩)
    refine ⟨some a, l0, m, fun i => if i < l0 then (q i).1 else 0, fun i => if i < l0 then (q i).2.1 else 0, fun i => if i < l0 then (q i).2.2 else 0, rfl, Nat.le_trans hl hm, ⟨fun i => ?_, fun hn => ?_⟩⟩
    · by_cases hi : i < l0
      · simp only [hi, if_true]
        exact (hq i hi).2.2.2
      · simp only [hi, if_false]
        decide
    · obtain ⟨b, off, rfl, hb⟩ := plain_spot8 (hq 0 hn).1
      have hadd : ∀ j, (⟨b, off, none⟩ : Addr).add j = ⟨b, off + j, none⟩ := fun j => by unfold Addr.add; split <;> simp_all
      refine ⟨b, off, rfl, hb, fun i hi => ?_⟩
      obtain ⟨c0, c1, c2, _⟩ := hq i hi
      rw [hadd] at c0 c1 c2
      simp only [hi, if_true]
      exact ⟨c0, by rw [Nat.add_assoc]; exact c1, by rw [Nat.add_assoc]; exact c2⟩
end
section
variable {H : Type} {enc : TypeId × Value → H} {w : World} {base : Nat} {spare : Nat → Bool} {held : Bool}
theorem okWide_ipair {r : Reach} {b0 : Nat} {v : Value} (h : Value.okWide Try.prog w r b0 51 v) : ∃ cs, v = .agg cs ∧ cs.size = Try.prog.cellsOf 51 := by
  have ht := Try.underlying51
  unfold Value.okWide at h
  simp only [ht] at h
  cases v <;> simp_all
theorem open_ipair {r : Reach} {b0 : Nat} {v : Value} {d : DataW H} {p : List MemPlace} (hv : Value.okWide Try.prog w r b0 51 v) (h : DataW.Trod enc Try.prog w base spare held 51 v d p) :
    ∃ x0 x1 : Int, v = .agg #[.int .i64 x0, .int .i64 x1] ∧ (Lit.int .i64 x0).wf = true ∧ (Lit.int .i64 x1).wf = true := by
  obtain ⟨cs, rfl, hsz⟩ := okWide_ipair hv
  obtain ⟨c0, c1, rfl⟩ := Joins.array2 (hsz.trans cells_ipair)
  obtain ⟨fuel, hf⟩ := h
  obtain ⟨xs, m, _, _, _, hl, hx⟩ := DataW.trod_array Try.underlying51 hf
  have a0 := hx 0 (by decide)
  have a1 := hx 1 (by decide)
  rw [cells_int8] at a0 a1
  obtain ⟨y0, e0⟩ : ∃ y, xs[0]? = some y := ⟨_, List.getElem?_eq_getElem (by omega)⟩
  obtain ⟨y1, e1⟩ : ∃ y, xs[1]? = some y := ⟨_, List.getElem?_eq_getElem (by omega)⟩
  rw [e0] at a0
  rw [e1] at a1
  obtain ⟨n0, g0, _, w0⟩ := DataW.trod_int Try.underlying3 a0
  obtain ⟨n1, g1, _, w1⟩ := DataW.trod_int Try.underlying3 a1
  simp [Value.cells] at g0 g1
  exact ⟨n0, n1, by rw [g0, g1], w0, w1⟩
end
end Go.Proofs.Ytndoedcaoklfgaa
