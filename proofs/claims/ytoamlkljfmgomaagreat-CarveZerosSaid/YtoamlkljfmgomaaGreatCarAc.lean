/-
  What two of layer 10's statements need: lists of what is asked, put together; a used block, found by its payload.
  Conditions: as said at each.
-/
import Derived.Test.YtoamlkljfmgomaaGreatCarAb
import Derived.Test.YtoamlkljfmgomaaGreatAskO
namespace Go.Proofs.YtoamlkljfmgomaaGreat
open Go.ChangeShapes Go.WideShapes Go.ChangeAt Go.RowKit Go.Deep
set_option linter.unusedVariables false
set_option linter.unusedSimpArgs false
set_option maxRecDepth 100000

/-! ### append of what is asked -/
theorem info_ask : (Tryz.prog.info? 62).map (fun i => (i.zero, i.size, i.bytes)) = some (some (.agg #[.int .u8 0, .int .u8 0, .int .u16 0]), 3, 4) := by kernel_rfl
theorem bytes_ask : Tryz.prog.bytesOf 62 = 4 := by kernel_rfl
def cellK (X Y Z : Nat → Nat) (j : Nat) : Value := if j % 3 = 0 then .int .u8 (X (j / 3) : Nat) else if j % 3 = 1 then .int .u8 (Y (j / 3) : Nat) else .int .u16 (Z (j / 3) : Nat)
def cellsK3 (X Y Z : Nat → Nat) (m : Nat) : List Value := (List.range (m * 3)).map (cellK X Y Z)
theorem cellsK3_len (X Y Z : Nat → Nat) (m : Nat) : (cellsK3 X Y Z m).length = m * 3 := by simp [cellsK3]
theorem cellsK3_get (X Y Z : Nat → Nat) {m j : Nat} (h : j < m * 3) : (cellsK3 X Y Z m)[j]? = some (cellK X Y Z j) := by
  unfold cellsK3
  rw [List.getElem?_map, List.getElem?_range h]
  rfl
theorem cellsK3_one (X Y Z : Nat → Nat) (m : Nat) : ∀ u ∈ cellsK3 X Y Z m, u.oneCell' = true := by
  intro u hu
  obtain ⟨j, _, rfl⟩ := List.mem_map.1 hu
  unfold cellK
  split
  · rfl
  · split <;> rfl
/-- two lists, one behind the other -/
def bothK (X X' : Nat → Nat) (n : Nat) : Nat → Nat := fun i => if i < n then X i else X' (i - n)
theorem bothK_cells (X Y Z X' Y' Z' : Nat → Nat) (n m : Nat) : cellsK3 X Y Z n ++ cellsK3 X' Y' Z' m = cellsK3 (bothK X X' n) (bothK Y Y' n) (bothK Z Z' n) (n + m) := by
  apply List.ext_getElem?
  intro j
  rcases Nat.lt_or_ge j (n * 3) with h | h
  · rw [List.getElem?_append_left (by rw [cellsK3_len]; exact h), cellsK3_get _ _ _ h, cellsK3_get _ _ _ (by omega)]
    unfold cellK bothK
    rw [if_pos (by omega : j / 3 < n), if_pos (by omega : j / 3 < n), if_pos (by omega : j / 3 < n)]
  · rw [List.getElem?_append_right (by rw [cellsK3_len]; exact h), cellsK3_len]
    rcases Nat.lt_or_ge j ((n + m) * 3) with h2 | h2
    · rw [cellsK3_get _ _ _ (by omega), cellsK3_get _ _ _ h2]
      unfold cellK bothK
      rw [if_neg (by omega : ¬ j / 3 < n), if_neg (by omega : ¬ j / 3 < n), if_neg (by omega : ¬ j / 3 < n), show (j - n * 3) % 3 = j % 3 by omega, show (j - n * 3) / 3 = j / 3 - n by omega]
    · rw [List.getElem?_eq_none (by rw [cellsK3_len]; omega), List.getElem?_eq_none (by rw [cellsK3_len]; exact h2)]
theorem wpList_append_asks {w2 : World} {base n m c : Nat} {v : Value} {xs : List Value} {la : Option Addr} {X Y Z : Nat → Nat} (hown : w2.ownsRow base 62 3 v n xs) (hp : PiecesAt w2 la m X Y Z) (hm : n + m ≤ 1000000) (hbase : base ≤ w2.heap.size)
    {ops : Array Oper} {rest : List Oper} {o : Oper} {a : Act} {Q : Exit → Act → World → Prop} (hgd : o.guard = none) (s x : Operand)
    (ho : o.op = .call { callee := .builtin .append, args := #[s, x], argTypes := #[22, 22] })
    (hs : a.eval s = v) (hx : a.eval x = .slice la m c)
    (h : ∀ v' w', w'.ownsRow base 62 3 v' (n + m) (xs ++ cellsK3 X Y Z m) → w2.grownBy w' v.ownBlock → (v' = .slice none 0 0 ↔ v = .slice none 0 0 ∧ m = 0) → wpList Tryz.prog ops Q rest (a.put o.dst v') w') :
    wpList Tryz.prog ops Q (o :: rest) a w2 := by
  obtain ⟨i0, hi, hz0, hz1, hz2⟩ := info_parts info_ask
  have hlen := cellsK3_len X Y Z m
  rcases la with _ | ad
  · have hm0 : m = 0 := by
      rcases Nat.eq_zero_or_pos m with h0 | h0
      · exact h0
      · obtain ⟨b, off, hb, _⟩ := hp.cells h0
        cases hb
    subst hm0
    refine wpList_plain hgd fun K hK => ?_
    have hrun := run_append_null (P := Tryz.prog) (w := w2) base 22 o.type 62 i0 3 c Tryz.underlying22 hi v n xs hown
    unfold Oper.wp
    simp [execOp, ho, resolve, invoke, builtin, hs, hx, hrun, Result.andThen]
    exact hK _ _ (h v w2 (by simpa [cellsK3] using hown) (grown_refl _ _) (by simp))
  · refine wpList_append_own _ hgd s x 22 ho base 62 i0 (.agg #[.int .u8 0, .int .u8 0, .int .u16 0]) 3 4 Tryz.underlying22 hi hz0 hz1 hz2 rfl (by decide) v n xs hs hown ad m c (cellsK3 X Y Z m) hx hlen ?_ ?_ (by unfold maxLen; omega) (by omega) hbase h
    · intro j u hj
      have hjm : j < m * 3 := by
        rcases Nat.lt_or_ge j (m * 3) with h' | h'
        · exact h'
        · rw [List.getElem?_eq_none (by rw [hlen]; exact h')] at hj; cases hj
      obtain ⟨b, off, hb, _, hcs⟩ := hp.cells (by omega)
      injection hb with hb
      subst hb
      have hadd : (⟨b, off, none⟩ : Addr).add j = ⟨b, off + j, none⟩ := by unfold Addr.add; split <;> simp_all
      rw [hadd]
      obtain ⟨c0, c1, c2⟩ := hcs (j / 3) (by omega)
      rw [cellsK3_get _ _ _ hjm] at hj
      unfold cellK at hj
      have hr : j % 3 = 0 ∨ j % 3 = 1 ∨ j % 3 = 2 := by omega
      rcases hr with hr | hr | hr
      · rw [if_pos hr] at hj
        rw [show off + j / 3 * 3 = off + j by omega] at c0
        rw [c0, ← hj]
      · rw [if_neg (by omega), if_pos hr] at hj
        rw [show off + j / 3 * 3 + 1 = off + j by omega] at c1
        rw [c1, ← hj]
      · rw [if_neg (by omega), if_neg (by omega)] at hj
        rw [show off + j / 3 * 3 + 2 = off + j by omega] at c2
        rw [c2, ← hj]
    · exact cellsK3_one _ _ _ _
/-- A row of the call's own, as an argument. -/
theorem asks_of_own {w : World} {base g cap m : Nat} {X Y Z : Nat → Nat} (h : w.ownsRow base 62 3 (.slice (some ⟨g, 0, none⟩) m cap) m (cellsK3 X Y Z m)) (hl : ∀ i, X i < 256 ∧ Y i < 256 ∧ Z i < 65536) : PiecesAt w (some ⟨g, 0, none⟩) m X Y Z where
  lt := hl
  cells := fun hn => by
    obtain ⟨_, cur, hb⟩ := row_block h (g := g) rfl
    refine ⟨g, 0, rfl, lt_of_block hb, fun i hi => ?_⟩
    have e0 := cellsK3_get X Y Z (m := m) (j := i * 3) (by omega)
    have e1 := cellsK3_get X Y Z (m := m) (j := i * 3 + 1) (by omega)
    have e2 := cellsK3_get X Y Z (m := m) (j := i * 3 + 2) (by omega)
    unfold cellK at e0 e1 e2
    rw [if_pos (by omega), show i * 3 / 3 = i by omega] at e0
    rw [if_neg (by omega), if_pos (by omega), show (i * 3 + 1) / 3 = i by omega] at e1
    rw [if_neg (by omega), if_neg (by omega), show (i * 3 + 2) / 3 = i by omega] at e2
    rw [Nat.zero_add]
    exact ⟨(World.ownsRow.cellAt h (i * 3) (by omega)).trans e0, (World.ownsRow.cellAt h (i * 3 + 1) (by omega)).trans e1, (World.ownsRow.cellAt h (i * 3 + 2) (by omega)).trans e2⟩
theorem asks_reach {H : Type} {enc : TypeId × Value → H} {w : World} {la : Option Addr} {n c : Nat} {d : DataW H} {p : List MemPlace} {ts : List TypeId} {ds : List (DataW H)} (hsz : (DataW.weightsEach Tryz.prog ts ds).all (· ≤ reachBytes) = true) {j : Nat} (ht : ts[j]? = some 22) (hd : ds[j]? = some d)
    (h : DataW.Trod enc Tryz.prog w 0 (fun _ => true) true 22 (.slice la n c) d p) : n * 4 ≤ 140737488351232 := by
  obtain ⟨fuel, hf⟩ := h
  rcases open_slice Tryz.underlying22 hf with ⟨h0, _⟩ | ⟨a, len, cap, m, n', D, Pl, hcs, _, hl, hm, hmeq, hx, hall⟩
  · simp [Value.cells] at h0
    obtain ⟨rfl, rfl, rfl⟩ := h0
    omega
  · simp [Value.cells] at hcs
    obtain ⟨rfl, rfl, rfl⟩ := hcs
    injection hx with hx _
    rw [hx] at hd
    have := sized_slice hsz ht hd Tryz.underlying22
    rw [bytes_ask] at this
    simp only [List.length_map, List.length_range] at this
    unfold reachBytes at this
    have h2 : n * 4 ≤ (n + (m - n)) * 4 := Nat.mul_le_mul_right _ (by omega)
    omega
/-! ### a used block is found -/
section
variable {w0 w : World} {T : Nat} {R : Option Nat} {ws : List Nat} {E : Nat} {bs : List Blk} {L : Nat → List Nat}
theorem hw_find_used (h : HW w0 w T R ws E bs L) {b : Blk} (hb : b ∈ bs) (hu : b.u = true) :
    Calls Tryz.prog 18 #[.pointer (some ⟨T, 0, none⟩), .int .u64 (b.off + 32 : Nat)] w fun e w' => e = .returned (.tuple #[b.val, .bool true]) ∧ w.grownBy w' none := by
  have hf := hw_find h (b.off + 32)
  obtain ⟨h0, M, B, D, l, h1, h2⟩ := h
  obtain ⟨k, hk, e⟩ := List.mem_iff_getElem.1 hb
  have ek : bs.getD k default = b := by rw [List.getD_eq_getElem?_getD, List.getElem?_eq_getElem hk]; exact e
  have hbnd := h2.told.is b hb
  have h3 := hbnd.hi
  have h4 := h2.low
  have hn : fstN (pF (b.off + 32)) bs = some k := fstN_is hk (by rw [ek]; unfold pF; rw [hu, decide_eq_true (by omega)]; rfl) fun j hj => by
    have hj' : j < bs.length := by omega
    have hlt := h2.told.rise hj hk
    rw [ek] at hlt
    unfold pF
    rw [decide_eq_false (by omega), Bool.and_false]
  have e1 : besN (pF (b.off + 32)) bs 0 = some b := by
    unfold besN
    rw [hn]
    dsimp only
    rw [if_pos (by omega), show ((k : Int) + 0).toNat = k by omega, ek]
  have e2 : besB (pF (b.off + 32)) bs 0 = b := by
    unfold besB
    rw [e1]
    rfl
  rw [e1, e2] at hf
  exact hf
end
end Go.Proofs.YtoamlkljfmgomaaGreat
