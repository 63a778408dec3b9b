/-
  Rows of steps (two bytes): append of steps that came in, in a region that draws its order; a row of the call's own as an argument; what so many steps and one more make.
  No condition.
-/
import Derived.Test.YtkpopaadkfgjaaaLedR
import Derived.Deep.AppendLies
namespace Go.Proofs.Ytkpopaadkfgjaaa
open Go.ChangeShapes Go.WideShapes Go.ChangeAt Go.RowKit Go.Deep
set_option linter.unusedVariables false
set_option linter.unusedSimpArgs false
set_option maxRecDepth 100000

theorem info_step : (Try.prog.info? 52).map (fun i => (i.zero, i.size, i.bytes)) = some (some (.agg #[.int .u8 0, .int .u8 0]), 2, 2) := by kernel_rfl
theorem bytes_step : Try.prog.bytesOf 52 = 2 := by kernel_rfl
def cellsS (X Y : Nat → Nat) (m : Nat) : List Value := (List.range (m * 2)).map fun j => if j % 2 = 0 then .int .u8 (X (j / 2) : Nat) else .int .u8 (Y (j / 2) : Nat)
theorem cellsS_len (X Y : Nat → Nat) (m : Nat) : (cellsS X Y m).length = m * 2 := by simp [cellsS]
theorem cellsS_get (X Y : Nat → Nat) {m j : Nat} (h : j < m * 2) : (cellsS X Y m)[j]? = some (if j % 2 = 0 then .int .u8 (X (j / 2) : Nat) else .int .u8 (Y (j / 2) : Nat)) := by
  unfold cellsS
  rw [List.getElem?_map, List.getElem?_range h]
  rfl
theorem cellsS_one (X Y : Nat → Nat) (m : Nat) : ∀ u ∈ cellsS X Y m, u.oneCell' = true := by
  intro u hu
  obtain ⟨j, _, rfl⟩ := List.mem_map.1 hu
  split <;> rfl
/-- so many steps, and one more -/
def moreS (X : Nat → Nat) (m x : Nat) : Nat → Nat := fun i => if i < m then X i else x
theorem moreS_low {X : Nat → Nat} {m x i : Nat} (h : i < m) : moreS X m x i = X i := if_pos h
theorem moreS_last (X : Nat → Nat) (m x : Nat) : moreS X m x m = x := if_neg (by omega)
theorem cellsS_more (X Y : Nat → Nat) (m x y : Nat) : cellsS X Y m ++ cellsS (fun _ => x) (fun _ => y) 1 = cellsS (moreS X m x) (moreS Y m y) (m + 1) := by
  apply List.ext_getElem?
  intro j
  rcases Nat.lt_or_ge j (m * 2) with h | h
  · rw [List.getElem?_append_left (by rw [cellsS_len]; exact h), cellsS_get _ _ h, cellsS_get _ _ (by omega), moreS_low (by omega), moreS_low (by omega)]
  · rw [List.getElem?_append_right (by rw [cellsS_len]; exact h), cellsS_len]
    rcases Nat.lt_or_ge j ((m + 1) * 2) with h2 | h2
    · rw [cellsS_get _ _ (by omega), cellsS_get _ _ h2, show j / 2 = m by omega, moreS_last, moreS_last, show (j - m * 2) % 2 = j % 2 by omega]
    · rw [List.getElem?_eq_none (by rw [cellsS_len]; omega), List.getElem?_eq_none (by rw [cellsS_len]; exact h2)]
/-- A row of the call's own, as an argument. -/
theorem steps_of_own {w : World} {base g cap m : Nat} {X Y : Nat → Nat} (h : w.ownsRow base 52 2 (.slice (some ⟨g, 0, none⟩) m cap) m (cellsS X Y m)) (hl : ∀ i, X i < 256 ∧ Y i < 256) : StepsAt w (some ⟨g, 0, none⟩) m X Y where
  lt := hl
  cells := fun hn => by
    obtain ⟨_, cur, hb⟩ := row_block h (g := g) rfl
    refine ⟨g, 0, rfl, lt_of_block hb, fun i hi => ?_⟩
    have e0 := cellsS_get X Y (m := m) (j := i * 2) (by omega)
    have e1 := cellsS_get X Y (m := m) (j := i * 2 + 1) (by omega)
    rw [if_pos (by omega), show i * 2 / 2 = i by omega] at e0
    rw [if_neg (by omega), show (i * 2 + 1) / 2 = i by omega] at e1
    rw [Nat.zero_add]
    exact ⟨(World.ownsRow.cellAt h (i * 2) (by omega)).trans e0, (World.ownsRow.cellAt h (i * 2 + 1) (by omega)).trans e1⟩
theorem run_append_none {P : Program} {w : World} (base : Nat) (t ty e : TypeId) (i : TypeInfo) (size c : Nat) (ht : P.underlying t = some (.slice e)) (hi : P.info? e = some i)
    (v : Value) (n : Nat) (xs : List Value) (hown : w.ownsRow base e size v n xs) :
    (Builtin.append_ #[t, t] ty #[v, .slice none 0 c]).run P w = .ok v w := by
  rcases hown.2 with ⟨rfl, rfl⟩ | ⟨g, cap, cur, rfl, _, _, hnc, _⟩
  · simp [Builtin.append_, run_underlying ht, sizeOf, typeInfo, hi, Builtin.lenOf, Builtin.firstCells]
  · simp [Builtin.append_, run_underlying ht, sizeOf, typeInfo, hi, Builtin.lenOf, Builtin.firstCells, hnc, storeCells]
/-- append of steps that came in, at a step of a region that draws its order -/
theorem step_append_steps {w2 : World} {base n m c : Nat} {v : Value} {xs : List Value} {la : Option Addr} {X Y : Nat → Nat} (hown : w2.ownsRow base 52 2 v n xs) (hp : StepsAt w2 la m X Y) (hm : (n + m) * 2 ≤ 140737488355328) (hbase : base ≤ w2.heap.size)
    {ops : Array Oper} {o : Oper} {a : Act} {K : Act → World → Prop} {Q : Exit → Act → World → Prop} {E : Prop} (hgd : o.guard = none) (s x : Operand)
    (ho : o.op = .call { callee := .builtin .append, args := #[s, x], argTypes := #[35, 35] })
    (hs : a.eval s = v) (hx : a.eval x = .slice la m c)
    (h : ∀ v' w', w'.ownsRow base 52 2 v' (n + m) (xs ++ cellsS X Y m) → w2.grownBy w' v.ownBlock → (v'.ownBlock = v.ownBlock ∨ v'.ownBlock = some w2.heap.size) → K (a.put o.dst v') w') :
    if Region.wanted o (yielded ops a.tmps) = true then Oper.wp Try.prog o a w2 K Q else E := by
  obtain ⟨i0, hi, hz0, hz1, hz2⟩ := info_parts info_step
  have hwt : Region.wanted o (yielded ops a.tmps) = true := by simp [Region.wanted, hgd]
  rw [if_pos hwt]
  rcases la with _ | ad
  · have hm0 : m = 0 := by
      rcases Nat.eq_zero_or_pos m with h0 | h0
      · exact h0
      · obtain ⟨b, off, hb, _⟩ := hp.cells h0
        cases hb
    subst hm0
    have hrun := run_append_none (P := Try.prog) (w := w2) base 35 o.type 52 i0 2 c Try.underlying35 hi v n xs hown
    unfold Oper.wp execOp
    simp only [ho, resolve, invoke, builtin, Sem.run_bind, Sem.run_pure, Result.andThen_ok, List.map_toArray, List.map_cons, List.map_nil, hs, hx, hrun]
    exact h v w2 (by simpa [cellsS] using hown) (grown_refl _ _) (.inl rfl)
  · obtain ⟨v', w', hr, h2, h3, _, h5⟩ := run_append_own_at (P := Try.prog) w2 base 35 o.type 52 i0 (.agg #[.int .u8 0, .int .u8 0]) 2 2 Try.underlying35 hi hz0 hz1 hz2 rfl (by decide) v n xs hown ad m c (cellsS X Y m) (cellsS_len X Y m) (fun j u hj => by
      have hjm : j < m * 2 := by
        rcases Nat.lt_or_ge j (m * 2) with h' | h'
        · exact h'
        · rw [List.getElem?_eq_none (by rw [cellsS_len]; exact h')] at hj; cases hj
      obtain ⟨b, off, hb, _, hcs⟩ := hp.cells (by omega)
      injection hb with hb
      subst hb
      have hadd : (⟨b, off, none⟩ : Addr).add j = ⟨b, off + j, none⟩ := by unfold Addr.add; split <;> simp_all
      rw [hadd]
      obtain ⟨c0, c1⟩ := hcs (j / 2) (by omega)
      rw [cellsS_get _ _ hjm] at hj
      rcases Nat.mod_two_eq_zero_or_one j with hr | hr
      · rw [if_pos hr] at hj
        rw [show j / 2 * 2 = j by omega] at c0
        rw [c0, ← hj]
      · rw [if_neg (by omega)] at hj
        rw [show off + j / 2 * 2 + 1 = off + j by omega] at c1
        rw [c1, ← hj]) (cellsS_one X Y m) (by unfold maxLen; omega) hm hbase
    unfold Oper.wp execOp
    simp only [ho, resolve, invoke, builtin, Sem.run_bind, Sem.run_pure, Result.andThen_ok, List.map_toArray, List.map_cons, List.map_nil, hs, hx, hr]
    exact h v' w' h2 h3 h5
/-- A list of steps that was read is no longer than the form's own reach. -/
theorem steps_reach {H : Type} {enc : TypeId × Value → H} {w : World} {la : Option Addr} {n c : Nat} {d : DataW H} {p : List MemPlace} {ts : List TypeId} {ds : List (DataW H)} (hsz : (DataW.weightsEach Try.prog ts ds).all (· ≤ reachBytes) = true) {j : Nat} (ht : ts[j]? = some 35) (hd : ds[j]? = some d)
    (h : DataW.Trod enc Try.prog w 0 (fun _ => true) true 35 (.slice la n c) d p) : n * 2 ≤ 140737488351232 := by
  obtain ⟨fuel, hf⟩ := h
  rcases open_slice Try.underlying35 hf with ⟨h0, _⟩ | ⟨a, len, cap, m, n', D, Pl, hcs, _, hl, hm, hmeq, hx, hall⟩
  · simp [Value.cells] at h0
    obtain ⟨rfl, rfl, rfl⟩ := h0
    omega
  · simp [Value.cells] at hcs
    obtain ⟨rfl, rfl, rfl⟩ := hcs
    injection hx with hx _
    rw [hx] at hd
    have := sized_slice hsz ht hd Try.underlying35
    rw [bytes_step] at this
    simp only [List.length_map, List.length_range] at this
    unfold reachBytes at this
    have h2 : n * 2 ≤ (n + (m - n)) * 2 := Nat.mul_le_mul_right _ (by omega)
    omega
/-! ### the lists of so many steps, and of one more -/
theorem playL_congr {U : List Nat} {A B A' B' : Nat → Nat} : ∀ {k : Nat}, (∀ i, i < k → A i = A' i ∧ B i = B' i) → playL U A B k = playL U A' B' k
  | 0, _ => rfl
  | k + 1, h => by
    unfold playL
    rw [playL_congr fun i hi => h i (by omega), (h k (by omega)).1, (h k (by omega)).2]
theorem playS_other (U : List Nat) (L : Nat → List Nat) (a b c : Nat) (h : c ≠ a % 8) : playS U L a b c = L c := by
  unfold playS
  split
  · exact setL_other _ h
  · split
    · rfl
    · exact setL_other _ h
theorem play_more (U : List Nat) (X Y : Nat → Nat) (m x y c : Nat) (h : c ≠ x % 8) : playL U (moreS X m x) (moreS Y m y) (m + 1) c = playL U X Y m c := by
  show playS U (playL U (moreS X m x) (moreS Y m y) m) (moreS X m x m) (moreS Y m y m) c = _
  rw [moreS_last, moreS_last, playS_other _ _ _ _ _ h, playL_congr fun i hi => ⟨moreS_low hi, moreS_low hi⟩]
/-! ### the sum of the blocks' first words -/
def sumT (tg : Nat → Nat) (U : List Nat) : Nat → Nat
  | 0 => 0
  | k + 1 => (sumT tg U k + tg (U.getD k 0) * (k + 1) % 18446744073709551616) % 18446744073709551616
theorem sumT_lt (tg : Nat → Nat) (U : List Nat) : ∀ k, sumT tg U k < 18446744073709551616
  | 0 => Nat.zero_lt_succ _
  | k + 1 => Nat.mod_lt _ (by decide)
end Go.Proofs.Ytkpopaadkfgjaaa
