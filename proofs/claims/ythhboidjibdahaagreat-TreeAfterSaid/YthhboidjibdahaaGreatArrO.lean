/-
  An argument of two bytes, and one of many, opened.
  No condition.
-/
import Derived.Test.YthhboidjibdahaaGreatRows
import Derived.Lib.SmallJoins
import Derived.ProofKit
import Derived.OpenShut
import Derived.Carry
import Derived.ChangeOld
import Derived.Test.YthhboidjibdahaaGreatLPhys
import Derived.Test.YthhboidjibdahaaGreatLTx
import Derived.Test.YthhboidjibdahaaGreatLTag
namespace Go.Proofs.YthhboidjibdahaaGreat
open Go.ChangeShapes Go.WideShapes Go.ChangeAt Go.RowKit Go.Deep
set_option linter.unusedVariables false
set_option linter.unusedSimpArgs false

/-! ### Two bytes that are handed in -/
theorem cells_byte1 : Tryz.prog.cellsOf 5 = 1 := by kernel_rfl
theorem cells_byte2 : Tryz.prog.cellsOf 23 = 2 := by kernel_rfl
theorem nat_of_byte {x : Int} (h : (Lit.int .u8 x).wf = true) : ∃ n : Nat, x = n ∧ n < 256 := by
  have h1 : IntKind.u8.min = 0 := rfl
  have h2 : IntKind.u8.max = 255 := rfl
  simp only [Lit.wf, Bool.and_eq_true, decide_eq_true_eq] at h
  exact ⟨x.toNat, by omega, by omega⟩
section
variable {H : Type} {enc : TypeId × Value → H} {w : World} {base : Nat} {spare : Nat → Bool} {held : Bool}
set_option maxRecDepth 100000 in
theorem okWide_byte2 {r : Reach} {b0 : Nat} {v : Value} (h : Value.okWide Tryz.prog w r b0 23 v) : ∃ cs, v = .agg cs ∧ cs.size = Tryz.prog.cellsOf 23 := by
  have ht := Tryz.underlying23
  unfold Value.okWide at h
  simp only [ht] at h
  cases v <;> simp_all
set_option maxRecDepth 100000 in
theorem open_byte2 {r : Reach} {b0 : Nat} {v : Value} {d : DataW H} {p : List MemPlace} (hv : Value.okWide Tryz.prog w r b0 23 v) (h : DataW.Trod enc Tryz.prog w base spare held 23 v d p) :
    ∃ x0 x1 : Nat, v = .agg #[.int .u8 x0, .int .u8 x1] ∧ x0 < 256 ∧ x1 < 256 := by
  obtain ⟨cs, rfl, hsz⟩ := okWide_byte2 hv
  obtain ⟨c0, c1, rfl⟩ := Joins.array2 (hsz.trans cells_byte2)
  obtain ⟨fuel, hf⟩ := h
  obtain ⟨xs, m, _, _, _, hl, hx⟩ := DataW.trod_array Tryz.underlying23 hf
  have a0 := hx 0 (by decide)
  have a1 := hx 1 (by decide)
  rw [cells_byte1] at a0 a1
  obtain ⟨y0, e0⟩ : ∃ y, xs[0]? = some y := ⟨_, List.getElem?_eq_getElem (by omega)⟩
  obtain ⟨y1, e1⟩ : ∃ y, xs[1]? = some y := ⟨_, List.getElem?_eq_getElem (by omega)⟩
  rw [e0] at a0
  rw [e1] at a1
  obtain ⟨n0, g0, _, w0⟩ := DataW.trod_int Tryz.underlying5 a0
  obtain ⟨n1, g1, _, w1⟩ := DataW.trod_int Tryz.underlying5 a1
  simp [Value.cells] at g0 g1
  obtain ⟨k0, rfl, l0⟩ := nat_of_byte w0
  obtain ⟨k1, rfl, l1⟩ := nat_of_byte w1
  exact ⟨k0, k1, by rw [g0, g1], l0, l1⟩
end
/-! ### Bytes that are handed in -/
/-- n bytes lie one behind the other. -/
structure BytesAt (w : World) (la : Option Addr) (n : Nat) (A : Nat → Nat) : Prop where
  lt : ∀ i, A i < 256
  cells : 0 < n → ∃ b off, la = some ⟨b, off, none⟩ ∧ b < w.heap.size ∧ ∀ i, i < n → w.cell? ⟨b, off + i, none⟩ = some (.int .u8 (A i : Nat))
theorem BytesAt.later {w w' : World} {la : Option Addr} {n : Nat} {A : Nat → Nat} (h : BytesAt w la n A) (hg : w.grownBy w' none) : BytesAt w' la n A where
  lt := h.lt
  cells := fun hn => by
    obtain ⟨b, off, h1, h2, h3⟩ := h.cells hn
    exact ⟨b, off, h1, Nat.lt_of_lt_of_le h2 hg.size, fun i hi => (World.cell?_of_block (w := w) (a := ⟨b, off + i, none⟩) (hg.block b h2 (by simp))).trans (h3 i hi)⟩
section
variable {H : Type} {enc : TypeId × Value → H} {w : World}
set_option maxRecDepth 100000 in
theorem open_bytes7 {r : Reach} {b0 : Nat} {v : Value} {d : DataW H} {p : List MemPlace} (hv : Value.okWide Tryz.prog w r b0 111 v) (h : DataW.Trod enc Tryz.prog w 0 (fun _ => true) true 111 v d p) :
    ∃ la n c A, v = .slice la n c ∧ n ≤ c ∧ n ≤ maxLen ∧ BytesAt w la n A := by
  obtain ⟨a0, l0, c0, rfl⟩ := okWide_slice Tryz.underlying111 hv
  obtain ⟨fuel, hf⟩ := h
  rcases open_slice Tryz.underlying111 hf with ⟨h0, _⟩ | ⟨a, len, cap, m, n, D, Pl, hcs, _, hl, hm, hmeq, hx, hall⟩
  · simp [Value.cells] at h0
    obtain ⟨rfl, rfl, rfl⟩ := h0
    exact ⟨none, 0, 0, fun _ => 0, rfl, Nat.le_refl _, Nat.zero_le _, ⟨fun _ => by decide, fun h => by omega⟩⟩
  · simp [Value.cells] at hcs
    obtain ⟨rfl, rfl, rfl⟩ := hcs
    simp only [if_true] at hmeq
    subst hmeq
    have key : ∀ i, i < l0 → ∃ x : Nat, w.cell? (a.add i) = some (.int .u8 (x : Nat)) ∧ x < 256 := by
      intro i hi
      obtain ⟨cs, h1, h2⟩ := hall i (by omega)
      rw [cells_byte1, Nat.mul_one] at h1
      obtain ⟨_, hlen, hcell⟩ := World.cells?_some h1
      obtain ⟨k0, g0, _, w0⟩ := DataW.trod_int Tryz.underlying5 h2
      obtain ⟨x, rfl, hx⟩ := nat_of_byte w0
      have e0 := hcell 0 (by omega)
      rw [add_add, Nat.add_zero] at e0
      rw [g0] at e0
      exact ⟨x, by simpa using e0, hx⟩
    obtain ⟨q, hq⟩ := choose_lt (α := Nat) (p := fun i q => w.cell? (a.add i) = some (.int .u8 (q : Nat)) ∧ q < 256) key
    refine ⟨some a, l0, m, fun i => if i < l0 then q i else 0, rfl, hl, Nat.le_trans hl hm, ⟨fun i => ?_, fun hn => ?_⟩⟩
    · by_cases hi : i < l0
      · simp only [hi, if_true]
        exact (hq i hi).2
      · simp only [hi, if_false]
        decide
    · obtain ⟨b, off, rfl, hb⟩ := plain_spot (hq 0 hn).1
      have hadd : ∀ j, (⟨b, off, none⟩ : Addr).add j = ⟨b, off + j, none⟩ := fun j => by unfold Addr.add; split <;> simp_all
      refine ⟨b, off, rfl, hb, fun i hi => ?_⟩
      obtain ⟨c0, _⟩ := hq i hi
      rw [hadd] at c0
      simp only [hi, if_true]
      exact c0
end
end Go.Proofs.YthhboidjibdahaaGreat
