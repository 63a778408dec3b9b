/-
  Arguments that are lists of what is asked, opened.
  No condition.
-/
import Derived.Test.YtoamlkljfmgomaaGreatLTx
import Derived.Test.YtoamlkljfmgomaaGreatLPhys
namespace Go.Proofs.YtoamlkljfmgomaaGreat
open Go.ChangeShapes Go.WideShapes Go.ChangeAt Go.RowKit Go.Deep
set_option linter.unusedVariables false
set_option linter.unusedSimpArgs false

theorem cells_ask : Tryz.prog.cellsOf 62 = 3 := by kernel_rfl
section
variable {H : Type} {enc : TypeId × Value → H} {w : World}
set_option maxRecDepth 100000 in
theorem ask_fields {n : Nat} {cs : List Value} {x : DataW H × List MemPlace} (h : DataW.trod enc Tryz.prog w 0 (fun _ => true) true n 62 cs = some x) :
    ∃ a b c : Nat, cs = [.int .u8 a, .int .u8 b, .int .u16 c] ∧ a < 256 ∧ b < 256 ∧ c < 65536 := by
  obtain ⟨xs, k, _, _, hcl, hxl, hf⟩ := DataW.trod_struct Tryz.underlying62 h
  rw [cells_ask] at hcl
  match xs, hxl, cs, hcl with
  | [y0, y1, y2], _, [v0, v1, v2], _ =>
    have g0 := hf 0 _ rfl
    have g1 := hf 1 _ rfl
    have g2 := hf 2 _ rfl
    simp [cells_u8, cells_u16] at g0 g1 g2
    obtain ⟨k0, e0, _, w0⟩ := DataW.trod_int Tryz.underlying5 g0
    obtain ⟨k1, e1, _, w1⟩ := DataW.trod_int Tryz.underlying5 g1
    obtain ⟨k2, e2, _, w2⟩ := DataW.trod_int Tryz.underlying60 g2
    simp only [List.cons.injEq, and_true] at e0 e1 e2
    have b0 := bounds_u8 w0
    have b1 := bounds_u8 w1
    have b2 := bounds_u16 w2
    obtain ⟨x, rfl⟩ := Int.eq_ofNat_of_zero_le b0.1
    obtain ⟨y, rfl⟩ := Int.eq_ofNat_of_zero_le b1.1
    obtain ⟨z, rfl⟩ := Int.eq_ofNat_of_zero_le b2.1
    exact ⟨x, y, z, by rw [e0, e1, e2], by omega, by omega, by omega⟩
set_option maxRecDepth 100000 in
theorem open_asks {r : Reach} {b0 : Nat} {v : Value} {d : DataW H} {p : List MemPlace} (hv : Value.okWide Tryz.prog w r b0 22 v) (h : DataW.Trod enc Tryz.prog w 0 (fun _ => true) true 22 v d p) :
    ∃ la n c A B C, v = .slice la n c ∧ n ≤ c ∧ n ≤ maxLen ∧ PiecesAt w la n A B C := by
  obtain ⟨a0, l0, c0, rfl⟩ := okWide_slice Tryz.underlying22 hv
  obtain ⟨fuel, hf⟩ := h
  rcases open_slice Tryz.underlying22 hf with ⟨h0, _⟩ | ⟨a, len, cap, m, n, D, Pl, hcs, _, hl, hm, hmeq, hx, hall⟩
  · simp [Value.cells] at h0
    obtain ⟨rfl, rfl, rfl⟩ := h0
    exact ⟨none, 0, 0, fun _ => 0, fun _ => 0, fun _ => 0, rfl, Nat.le_refl _, Nat.zero_le _, ⟨fun _ => ⟨by decide, by decide, by decide⟩, fun h => by omega⟩⟩
  · simp [Value.cells] at hcs
    obtain ⟨rfl, rfl, rfl⟩ := hcs
    simp only [if_true] at hmeq
    subst hmeq
    have key : ∀ i, i < l0 → ∃ x y z : Nat, w.cell? (a.add (i * 3)) = some (.int .u8 (x : Nat)) ∧ w.cell? (a.add (i * 3 + 1)) = some (.int .u8 (y : Nat)) ∧ w.cell? (a.add (i * 3 + 2)) = some (.int .u16 (z : Nat)) ∧ x < 256 ∧ y < 256 ∧ z < 65536 := by
      intro i hi
      obtain ⟨cs, h1, h2⟩ := hall i (by omega)
      rw [cells_ask] at h1
      obtain ⟨_, hlen, hcell⟩ := World.cells?_some h1
      obtain ⟨x, y, z, rfl, hx, hy, hz⟩ := ask_fields h2
      have e0 := hcell 0 (by omega)
      have e1 := hcell 1 (by omega)
      have e2 := hcell 2 (by omega)
      rw [add_add] at e0 e1 e2
      exact ⟨x, y, z, by simpa using e0, by simpa using e1, by simpa using e2, hx, hy, hz⟩
    obtain ⟨q, hq⟩ := choose_lt (α := Nat × Nat × Nat) (p := fun i q => w.cell? (a.add (i * 3)) = some (.int .u8 (q.1 : Nat)) ∧ w.cell? (a.add (i * 3 + 1)) = some (.int .u8 (q.2.1 : Nat)) ∧ w.cell? (a.add (i * 3 + 2)) = some (.int .u16 (q.2.2 : Nat)) ∧ q.1 < 256 ∧ q.2.1 < 256 ∧ q.2.2 < 65536) (fun i hi => by
      obtain ⟨x, y, z, h⟩ := key i hi
      exact ⟨(x, y, z), h⟩)
    refine ⟨some a, l0, m, fun i => if i < l0 then (q i).1 else 0, fun i => if i < l0 then (q i).2.1 else 0, fun i => if i < l0 then (q i).2.2 else 0, rfl, hl, Nat.le_trans hl hm, ⟨fun i => ?_, fun hn => ?_⟩⟩
    · by_cases hi : i < l0
      · simp only [hi, if_true]
        exact (hq i hi).2.2.2
      · simp only [hi, if_false]
        exact ⟨by decide, by decide, by decide⟩
    · obtain ⟨b, off, rfl, hb⟩ := plain_spot (hq 0 hn).1
      have hadd : ∀ j, (⟨b, off, none⟩ : Addr).add j = ⟨b, off + j, none⟩ := fun j => by unfold Addr.add; split <;> simp_all
      refine ⟨b, off, rfl, hb, fun i hi => ?_⟩
      obtain ⟨c0, c1, c2, _⟩ := hq i hi
      rw [hadd] at c0 c1 c2
      simp only [hi, if_true]
      exact ⟨c0, by rw [Nat.add_assoc]; exact c1, by rw [Nat.add_assoc]; exact c2⟩
end
end Go.Proofs.YtoamlkljfmgomaaGreat
