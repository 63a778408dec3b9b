/-
  Arguments that are lists of pieces, and lists of plain blocks, opened.
  No condition.
-/
import Derived.Test.YtkpopaadkfgjaaaLTx
import Derived.Test.YtkpopaadkfgjaaaTagO
import Derived.Test.YtkpopaadkfgjaaaPhysN
namespace Go.Proofs.Ytkpopaadkfgjaaa
open Go.ChangeShapes Go.WideShapes Go.ChangeAt Go.RowKit Go.Deep
set_option linter.unusedVariables false
set_option linter.unusedSimpArgs false

theorem cells_u8 : Try.prog.cellsOf 5 = 1 := by kernel_rfl
theorem cells_u16 : Try.prog.cellsOf 55 = 1 := by kernel_rfl
theorem cells_piece : Try.prog.cellsOf 57 = 3 := by kernel_rfl
theorem cells_rblk : Try.prog.cellsOf 80 = 5 := by kernel_rfl
theorem cells_bool : Try.prog.cellsOf 4 = 1 := by kernel_rfl
theorem cells_int : Try.prog.cellsOf 3 = 1 := by kernel_rfl
section
variable {H : Type} {enc : TypeId × Value → H} {w : World}
set_option maxRecDepth 100000 in
theorem piece_fields {n : Nat} {cs : List Value} {x : DataW H × List MemPlace} (h : DataW.trod enc Try.prog w 0 (fun _ => true) true n 57 cs = some x) :
    ∃ a b c : Nat, cs = [.int .u8 a, .int .u8 b, .int .u16 c] ∧ a < 256 ∧ b < 256 ∧ c < 65536 := by
  obtain ⟨xs, k, _, _, hcl, hxl, hf⟩ := DataW.trod_struct Try.underlying57 h
  rw [cells_piece] at hcl
  match xs, hxl, cs, hcl with
  | [y0, y1, y2], _, [v0, v1, v2], _ =>
    have g0 := hf 0 _ rfl
    have g1 := hf 1 _ rfl
    have g2 := hf 2 _ rfl
    simp [cells_u8, cells_u16] at g0 g1 g2
    obtain ⟨k0, e0, _, w0⟩ := DataW.trod_int Try.underlying5 g0
    obtain ⟨k1, e1, _, w1⟩ := DataW.trod_int Try.underlying5 g1
    obtain ⟨k2, e2, _, w2⟩ := DataW.trod_int Try.underlying55 g2
    simp only [List.cons.injEq, and_true] at e0 e1 e2
    have b0 := bounds_u8 w0
    have b1 := bounds_u8 w1
    have b2 := bounds_u16 w2
    obtain ⟨x, rfl⟩ := Int.eq_ofNat_of_zero_le b0.1
    obtain ⟨y, rfl⟩ := Int.eq_ofNat_of_zero_le b1.1
    obtain ⟨z, rfl⟩ := Int.eq_ofNat_of_zero_le b2.1
    exact ⟨x, y, z, by rw [e0, e1, e2], by omega, by omega, by omega⟩
set_option maxRecDepth 100000 in
theorem block_fields {n : Nat} {cs : List Value} {x : DataW H × List MemPlace} (h : DataW.trod enc Try.prog w 0 (fun _ => true) true n 80 cs = some x) :
    ∃ b : Blk, cs = b.row ∧ b.off < 18446744073709551616 := by
  obtain ⟨xs, k, _, _, hcl, hxl, hf⟩ := DataW.trod_struct Try.underlying80 h
  rw [cells_rblk] at hcl
  match xs, hxl, cs, hcl with
  | [y0, y1, y2], _, [v0, v1, v2, v3, v4], _ =>
    have g0 := hf 0 _ rfl
    have g1 := hf 1 _ rfl
    have g2 := hf 2 _ rfl
    simp [cells_u64, cells_rtag] at g0 g1 g2
    obtain ⟨zs, k', _, _, hcl', hzl, hg⟩ := DataW.trod_struct Try.underlying78 g1
    match zs, hzl with
    | [z0, z1, z2], _ =>
      have t0 := hg 0 _ rfl
      have t1 := hg 1 _ rfl
      have t2 := hg 2 _ rfl
      simp [cells_u64, cells_bool, cells_int] at t0 t1 t2
      obtain ⟨k0, e0, _, w0⟩ := DataW.trod_int Try.underlying30 g0
      obtain ⟨k1, e1, _, w1⟩ := DataW.trod_int Try.underlying30 t0
      obtain ⟨k2, e2, _⟩ := DataW.trod_bool Try.underlying4 t1
      obtain ⟨k3, e3, _, w3⟩ := DataW.trod_int Try.underlying3 t2
      obtain ⟨k4, e4, _, w4⟩ := DataW.trod_int Try.underlying30 g2
      simp only [List.cons.injEq, and_true] at e0 e1 e2 e3 e4
      have b0 := bounds_u64 w0
      have b1 := bounds_u64 w1
      have b4 := bounds_u64 w4
      obtain ⟨x, rfl⟩ := Int.eq_ofNat_of_zero_le b0.1
      obtain ⟨y, rfl⟩ := Int.eq_ofNat_of_zero_le b1.1
      obtain ⟨z, rfl⟩ := Int.eq_ofNat_of_zero_le b4.1
      exact ⟨⟨x, y, k2, k3, z⟩, by rw [e0, e1, e2, e3, e4]; rfl, by show x < _; omega⟩
theorem plain_spot {a : Addr} {v : Value} (h : w.cell? (a.add 0) = some v) : ∃ b off, a = ⟨b, off, none⟩ ∧ b < w.heap.size := by
  obtain ⟨b, off, spot⟩ := a
  have ho : (⟨b, off, spot⟩ : Addr).add 0 = ⟨b, off, spot⟩ := rfl
  rw [ho] at h
  have hb : b < w.heap.size := by
    rcases Nat.lt_or_ge b w.heap.size with h' | h'
    · exact h'
    · simp [World.cell?, Array.getElem?_eq_none h'] at h
  rcases spot with _ | s
  · exact ⟨b, off, rfl, hb⟩
  · exfalso
    unfold World.cell? at h
    simp only at h
    split at h <;> simp at h
set_option maxRecDepth 100000 in
theorem open_pieces {r : Reach} {b0 : Nat} {v : Value} {d : DataW H} {p : List MemPlace} (hv : Value.okWide Try.prog w r b0 34 v) (h : DataW.Trod enc Try.prog w 0 (fun _ => true) true 34 v d p) :
    ∃ la n c A B C, v = .slice la n c ∧ n ≤ c ∧ n ≤ maxLen ∧ PiecesAt w la n A B C := by
  obtain ⟨a0, l0, c0, rfl⟩ := okWide_slice Try.underlying34 hv
  obtain ⟨fuel, hf⟩ := h
  rcases open_slice Try.underlying34 hf with ⟨h0, _⟩ | ⟨a, len, cap, m, n, D, Pl, hcs, _, hl, hm, hmeq, hx, hall⟩
  · simp [Value.cells] at h0
    obtain ⟨rfl, rfl, rfl⟩ := h0
    exact ⟨none, 0, 0, fun _ => 0, fun _ => 0, fun _ => 0, rfl, Nat.le_refl _, Nat.zero_le _, ⟨fun _ => ⟨by decide, by decide, by decide⟩, fun h => by omega⟩⟩
  · simp [Value.cells] at hcs
    obtain ⟨rfl, rfl, rfl⟩ := hcs
    simp only [if_true] at hmeq
    subst hmeq
    have key : ∀ i, i < l0 → ∃ x y z : Nat, w.cell? (a.add (i * 3)) = some (.int .u8 (x : Nat)) ∧ w.cell? (a.add (i * 3 + 1)) = some (.int .u8 (y : Nat)) ∧ w.cell? (a.add (i * 3 + 2)) = some (.int .u16 (z : Nat)) ∧ x < 256 ∧ y < 256 ∧ z < 65536 := by
      intro i hi
      obtain ⟨cs, h1, h2⟩ := hall i (by omega)
      rw [cells_piece] at h1
      obtain ⟨_, hlen, hcell⟩ := World.cells?_some h1
      obtain ⟨x, y, z, rfl, hx, hy, hz⟩ := piece_fields h2
      have e0 := hcell 0 (by omega)
      have e1 := hcell 1 (by omega)
      have e2 := hcell 2 (by omega)
      rw [add_add] at e0 e1 e2
      exact ⟨x, y, z, by simpa using e0, by simpa using e1, by simpa using e2, hx, hy, hz⟩
    obtain ⟨q, hq⟩ := choose_lt (α := Nat × Nat × Nat) (p := fun i q => w.cell? (a.add (i * 3)) = some (.int .u8 (q.1 : Nat)) ∧ w.cell? (a.add (i * 3 + 1)) = some (.int .u8 (q.2.1 : Nat)) ∧ w.cell? (a.add (i * 3 + 2)) = some (.int .u16 (q.2.2 : Nat)) ∧ q.1 < 256 ∧ q.2.1 < 256 ∧ q.2.2 < 65536) (fun i hi => by
      obtain ⟨x, y, z, h⟩ := key i hi
      exact ⟨(x, y, z), h⟩)
    refine ⟨some a, l0, m, fun i => if i < l0 then (q i).1 else 0, fun i => if i < l0 then (q i).2.1 else 0, fun i => if i < l0 then (q i).2.2 else 0, rfl, hl, Nat.le_trans hl hm, ⟨fun i => ?_, fun hn => ?_⟩⟩
    · by_cases hi : i < l0
      · simp only [hi, if_true]
        exact (hq i hi).2.2.2
      · simp only [hi, if_false]
        exact ⟨by decide, by decide, by decide⟩
    · obtain ⟨b, off, rfl, hb⟩ := plain_spot (hq 0 hn).1
      have hadd : ∀ j, (⟨b, off, none⟩ : Addr).add j = ⟨b, off + j, none⟩ := fun j => by unfold Addr.add; split <;> simp_all
      refine ⟨b, off, rfl, hb, fun i hi => ?_⟩
      obtain ⟨c0, c1, c2, _⟩ := hq i hi
      rw [hadd] at c0 c1 c2
      simp only [hi, if_true]
      exact ⟨c0, by rw [Nat.add_assoc]; exact c1, by rw [Nat.add_assoc]; exact c2⟩
set_option maxRecDepth 100000 in
theorem open_blks {r : Reach} {b0 : Nat} {v : Value} {d : DataW H} {p : List MemPlace} (hv : Value.okWide Try.prog w r b0 74 v) (h : DataW.Trod enc Try.prog w 0 (fun _ => true) true 74 v d p) :
    ∃ la c, ∃ l : List Blk, v = .slice la l.length c ∧ l.length ≤ maxLen ∧ BlksAt w la l := by
  obtain ⟨a0, l0, c0, rfl⟩ := okWide_slice Try.underlying74 hv
  obtain ⟨fuel, hf⟩ := h
  rcases open_slice Try.underlying74 hf with ⟨h0, _⟩ | ⟨a, len, cap, m, n, D, Pl, hcs, _, hl, hm, hmeq, hx, hall⟩
  · simp [Value.cells] at h0
    obtain ⟨rfl, rfl, rfl⟩ := h0
    exact ⟨none, 0, [], rfl, Nat.zero_le _, ⟨fun h => by simp at h⟩⟩
  · simp [Value.cells] at hcs
    obtain ⟨rfl, rfl, rfl⟩ := hcs
    simp only [if_true] at hmeq
    subst hmeq
    have key : ∀ i, i < l0 → ∃ b : Blk, ∀ j u, j < 5 → b.row[j]? = some u → w.cell? (a.add (i * 5 + j)) = some u := by
      intro i hi
      obtain ⟨cs, h1, h2⟩ := hall i (by omega)
      rw [cells_rblk] at h1
      obtain ⟨_, hlen, hcell⟩ := World.cells?_some h1
      obtain ⟨b, rfl, hb⟩ := block_fields h2
      refine ⟨b, fun j u hj hu => ?_⟩
      have e := hcell j hj
      rw [add_add] at e
      rw [e]
      exact hu
    obtain ⟨q, hq⟩ := choose_lt (α := Blk) key
    have hget : ∀ k, k < l0 → ((List.range l0).map q).getD k default = q k := fun k hk => by
      rw [List.getD_eq_getElem?_getD, List.getElem?_map, List.getElem?_range hk]
      rfl
    refine ⟨some a, m, (List.range l0).map q, by simp, by rw [List.length_map, List.length_range]; omega, ⟨fun hn => ?_⟩⟩
    rw [List.length_map, List.length_range] at hn ⊢
    obtain ⟨b, off, rfl, hb⟩ := plain_spot (hq 0 hn 0 _ (by decide) rfl)
    have hadd : ∀ j, (⟨b, off, none⟩ : Addr).add j = ⟨b, off + j, none⟩ := fun j => by unfold Addr.add; split <;> simp_all
    refine ⟨b, off, rfl, hb, fun k hk => ?_⟩
    have h0 := hq k hk 0 _ (by decide) rfl
    have h1 := hq k hk 1 _ (by decide) rfl
    have h2 := hq k hk 2 _ (by decide) rfl
    have h3 := hq k hk 3 _ (by decide) rfl
    have h4 := hq k hk 4 _ (by decide) rfl
    rw [hadd] at h0 h1 h2 h3 h4
    unfold gO gS gU gW gN
    rw [hget k hk]
    exact ⟨h0, by rw [Nat.add_assoc]; exact h1, by rw [Nat.add_assoc]; exact h2, by rw [Nat.add_assoc]; exact h3, by rw [Nat.add_assoc]; exact h4⟩
end
end Go.Proofs.Ytkpopaadkfgjaaa
