/-
  A Tx whose words tell a sound heap, and a heap by value beside it: what each call of the package, and of those below, tells and leaves.
  Conditions: as said at each.
-/
import Derived.Test.YtoamlkljfmgomaaGreatCarU
import Derived.Test.YtoamlkljfmgomaaGreatCarSa
import Derived.Test.YtoamlkljfmgomaaGreatCarL
import Derived.Test.YtoamlkljfmgomaaGreatLTreez
import Derived.Test.YtoamlkljfmgomaaGreatLPhys
namespace Go.Proofs.YtoamlkljfmgomaaGreat
open Go.RowKit
set_option linter.unusedVariables false
set_option linter.unusedSimpArgs false
set_option maxRecDepth 100000

/-- A Tx that is new since w0, over a segment of 4800 bytes, whose words tell a sound heap. -/
def HW (w0 w : World) (T : Nat) (R : Option Nat) (ws : List Nat) (E : Nat) (bs : List Blk) (L : Nat → List Nat) : Prop :=
  8 * ws.length = 4800 ∧ ∃ M B D l, Txs w0 w T M R B D ws l ∧ SoundF (txSee ws l) E bs L
/-- .. and the words of a payload that n bytes take are 0. -/
def HZ (w0 w : World) (T : Nat) (R : Option Nat) (ws : List Nat) (E : Nat) (bs : List Blk) (L : Nat → List Nat) (p n : Nat) : Prop :=
  8 * ws.length = 4800 ∧ ∃ M B D l, Txs w0 w T M R B D ws l ∧ SoundF (txSee ws l) E bs L ∧ ∀ j, j < (n + 7) / 8 → txSee ws l (p + 8 * j) = 0
/-- A heap by value, whose rows aren't the Tx's. -/
def HvK (w : World) (R : Option Nat) (base : Nat) (v : Value) (E : Nat) (bs : List Blk) (L : Nat → List Nat) : Prop :=
  ∃ b vs, v = heapV E b vs ∧ OwnB w base 43 b bs ∧ ∀ c, c < 8 → KW w R base (vs c) (L c)
section
variable {w0 w w' : World} {T : Nat} {R R' : Option Nat} {ws : List Nat} {E n a i base m k p : Nat} {bs : List Blk} {L : Nat → List Nat} {v : Value} {la : Option Addr}
theorem HW.later (h : HW w0 w T R ws E bs L) (hg : w.grownBy w' none) : HW w0 w' T R ws E bs L := by
  obtain ⟨h0, M, B, D, l, h1, h2⟩ := h
  exact ⟨h0, M, B, D, l, h1.later hg, h2⟩
theorem HW.since (h : HW w0 w T R ws E bs L) : w0.grownBy w none := by
  obtain ⟨h0, M, B, D, l, h1, h2⟩ := h
  exact h1.since
theorem HZ.heap (h : HZ w0 w T R ws E bs L p n) : HW w0 w T R ws E bs L := by
  obtain ⟨h0, M, B, D, l, h1, h2, _⟩ := h
  exact ⟨h0, M, B, D, l, h1, h2⟩
theorem HZ.later (h : HZ w0 w T R ws E bs L p n) (hg : w.grownBy w' none) : HZ w0 w' T R ws E bs L p n := by
  obtain ⟨h0, M, B, D, l, h1, h2, h3⟩ := h
  exact ⟨h0, M, B, D, l, h1.later hg, h2, h3⟩
theorem HvK.is (h : HvK w R base v E bs L) : HvIs w base v E bs L := by
  obtain ⟨b, vs, h1, h2, h3⟩ := h
  exact ⟨⟨b, vs, h1, h2, fun c hc => (h3 c hc).1⟩⟩
theorem HvK.later (h : HvK w R base v E bs L) (hg : w.grownBy w' none) : HvK w' R base v E bs L := by
  obtain ⟨b, vs, h1, h2, h3⟩ := h
  exact ⟨b, vs, h1, h2.later hg, fun c hc => (h3 c hc).later hg⟩
theorem HvK.mono {base' : Nat} (h : HvK w R base v E bs L) (hb : base' ≤ base) : HvK w R base' v E bs L := by
  obtain ⟨b, vs, h1, h2, h3⟩ := h
  exact ⟨b, vs, h1, h2.mono hb, fun c hc => (h3 c hc).mono hb⟩
/-- rows of blocks are none of the Tx's -/
theorem Keep.blks {t : TypeId} {l : List Blk} (K : Keep w R w' R') (h : OwnB w base t v l) (h1 : t ≠ 109) (h2 : t ≠ 23) : OwnB w' base t v l := by
  refine ⟨h.1, ?_⟩
  rcases h.2 with hn | ⟨g, cap, cur, rfl, hb, hgg, rest⟩
  · exact .inl hn
  · exact .inr ⟨g, cap, cur, rfl, hb, K.far hgg h1 h2, rest⟩
theorem HvK.step (h : HvK w R base v E bs L) (K : Keep w R w' R') : HvK w' R' base v E bs L := by
  obtain ⟨b, vs, h1, h2, h3⟩ := h
  exact ⟨b, vs, h1, K.blks h2 (by decide) (by decide), fun c hc => K.row (h3 c hc)⟩
/-- what is newer than the Tx is none of its rows -/
theorem HW.newR (h : HW w0 w T R ws E bs L) {g : Nat} (hg : R = some g) : g < w.heap.size := by
  obtain ⟨h0, M, B, D, l, h1, h2⟩ := h
  exact h1.tx.ltR hg
theorem HW.row (h : HW w0 w T R ws E bs L) {xs : List Nat} (ho : OwnW w' base v xs) (hb : w.heap.size ≤ base) : KW w' R base v xs :=
  ⟨ho, fun g hg e => by
    have := h.newR e
    have := (World.ownsRow.lt ho g hg).1
    omega⟩
theorem HvIs.beside {E' : Nat} {bs' : List Blk} {L' : Nat → List Nat} (hv : HvIs w' base v E' bs' L') (h : HW w0 w T R ws E bs L) (hb : w.heap.size ≤ base) : HvK w' R base v E' bs' L' := by
  obtain ⟨b, vs, h1, h2, h3⟩ := hv.is
  exact ⟨b, vs, h1, h2, fun c hc => h.row (h3 c hc) hb⟩
/-! ### Fit -/
theorem fitErr_arg (h : ¬ alignP a) : fitErr bs n a = 1 := by unfold fitErr; rw [if_pos h]
theorem fitErr_size (h : alignP a) (hn : 18446744073709551560 < n) : fitErr bs n a = 2 := by unfold fitErr; rw [if_neg (fun k => k h), if_pos hn]
theorem fitErr_none (h : alignP a) (hn : n ≤ 18446744073709551560) (hf : fitM bs n a = none) : fitErr bs n a = 3 := by unfold fitErr; rw [if_neg (fun k => k h), if_neg (by omega), if_pos hf]
theorem fitErr_some (h : alignP a) (hn : n ≤ 18446744073709551560) (hf : fitM bs n a = some i) : fitErr bs n a = 0 := by unfold fitErr; rw [if_neg (fun k => k h), if_neg (by omega), if_neg (by rw [hf]; simp)]
theorem hw_fit_ok (h : HW w0 w T R ws E bs L) (ha : alignP a) (hn : n ≤ 18446744073709551560) (hfi : fitM bs n a = some i) :
    Calls Tryz.prog 11 #[.pointer (some ⟨T, 0, none⟩), .int .u64 n, .int .u64 a] w fun e w' => e = .returned (.tuple #[.agg #[.int .u64 (gO bs i : Nat), .int .u64 (padN (gO bs i) a : Nat), .int .u64 (needOf n : Nat)], .int .i64 0]) ∧ w.grownBy w' none := by
  obtain ⟨h0, M, B, D, l, h1, h2⟩ := h
  refine (hfit_any h1.tx h0 h2.heap ha hn).mono ?_
  rintro e w' ⟨h3 | h3, hg⟩
  · obtain ⟨i', e1, e2⟩ := h3
    have : i' = i := Option.some.inj (e1.symm.trans hfi)
    subst this
    exact ⟨e2, hg⟩
  · rw [hfi] at h3; cases h3.1
theorem hw_fit_bad (h : HW w0 w T R ws E bs L) (hn : n < 18446744073709551616) (ha : a < 18446744073709551616) {e : Nat} (he : fitErr bs n a = e) (hp : 0 < e) :
    Calls Tryz.prog 11 #[.pointer (some ⟨T, 0, none⟩), .int .u64 n, .int .u64 a] w fun e' w' => e' = .returned (.tuple #[.agg #[.int .u64 0, .int .u64 0, .int .u64 0], .int .i64 (e : Nat)]) ∧ w.grownBy w' none := by
  obtain ⟨h0, M, B, D, l, h1, h2⟩ := h
  subst he
  by_cases hA : alignP a
  · by_cases hN : 18446744073709551560 < n
    · rw [fitErr_size hA hN]
      exact cfit_size hA hN hn _ w
    · cases hf : fitM bs n a with
      | some i => rw [fitErr_some hA (by omega) hf] at hp; cases hp
      | none =>
        rw [fitErr_none hA (by omega) hf]
        refine (hfit_any h1.tx h0 h2.heap hA (by omega)).mono ?_
        rintro e w' ⟨h3 | h3, hg⟩
        · obtain ⟨i', e1, e2⟩ := h3
          rw [hf] at e1; cases e1
        · exact ⟨h3.2, hg⟩
  · rw [fitErr_arg hA]
    exact cfit_arg ha hA _ n w
/-! ### Take -/
theorem hw_take_zero (h : HW w0 w T R ws E bs L) {owner : Nat} (ha : alignP a) (hn : n ≤ 18446744073709551560) (how : owner ≤ 8) (hfi : fitM bs n a = some i) :
    Calls Tryz.prog 14 #[.pointer (some ⟨T, 0, none⟩), .int .i64 owner, .int .u64 n, .int .u64 a] w fun e w' => e = .returned (.tuple #[.int .u64 (gO bs i + padN (gO bs i) a + 32 : Nat), .int .i64 0]) ∧ ∃ R', HZ w0 w' T R' ws E (takeB bs i (padN (gO bs i) a) (needOf n) owner n) (takeL L owner (gO bs i + padN (gO bs i) a)) (gO bs i + padN (gO bs i) a + 32) n ∧ Keep w R w' R' := by
  obtain ⟨h0, M, B, D, l, h1, h2⟩ := h
  refine (htake_ok h1 h0 h2 ha hn how hfi).mono ?_
  rintro e w' ⟨rfl, R', l', X, hs, K⟩
  exact ⟨rfl, R', ⟨h0, M, B, D, l', X, hs⟩, K⟩
theorem hw_take_ok (h : HW w0 w T R ws E bs L) {owner : Nat} (ha : alignP a) (hn : n ≤ 18446744073709551560) (how : owner ≤ 8) (hfi : fitM bs n a = some i) :
    Calls Tryz.prog 14 #[.pointer (some ⟨T, 0, none⟩), .int .i64 owner, .int .u64 n, .int .u64 a] w fun e w' => e = .returned (.tuple #[.int .u64 (gO bs i + padN (gO bs i) a + 32 : Nat), .int .i64 0]) ∧ ∃ R', HW w0 w' T R' ws E (takeB bs i (padN (gO bs i) a) (needOf n) owner n) (takeL L owner (gO bs i + padN (gO bs i) a)) ∧ Keep w R w' R' :=
  (hw_take_zero h ha hn how hfi).mono fun e w' ⟨h1, R', h2, h3⟩ => ⟨h1, R', h2.heap, h3⟩
theorem hw_take_who (p : Option Addr) (n a : Nat) {owner : Int} (ho : owner < 0 ∨ 8 < owner) (w : World) :
    Calls Tryz.prog 14 #[.pointer p, .int .i64 owner, .int .u64 n, .int .u64 a] w fun e w' => e = .returned (.tuple #[.int .u64 0, .int .i64 1]) ∧ w.grownBy w' none := by
  rcases ho with ho | ho
  · go_enter Tryz.func14, Tryz.ntmps14
    go_wp2
    go_ret2
    exact ⟨rfl, grown_refl _ _⟩
  · have h0 : ¬ owner < 0 := by omega
    go_enter Tryz.func14, Tryz.ntmps14
    go_wp2
    go_ret2
    exact ⟨rfl, grown_refl _ _⟩
theorem hw_take_bad (h : HW w0 w T R ws E bs L) (hn : n < 18446744073709551616) (ha : a < 18446744073709551616) {owner : Int} (h0 : 0 ≤ owner) (h8 : owner ≤ 8) {e : Nat} (he : fitErr bs n a = e) (hp : 0 < e) :
    Calls Tryz.prog 14 #[.pointer (some ⟨T, 0, none⟩), .int .i64 owner, .int .u64 n, .int .u64 a] w fun e' w' => e' = .returned (.tuple #[.int .u64 0, .int .i64 (e : Nat)]) ∧ w.grownBy w' none := by
  have hfit := hw_fit_bad h hn ha he hp
  have i1 : ¬ owner < 0 := by omega
  have i2 : ¬ 8 < owner := by omega
  have e0 : ¬ (e : Int) = 0 := by omega
  have e1 : ((e : Int) != 0) = true := by simpa using e0
  clear he h
  go_enter Tryz.func14, Tryz.ntmps14
  go_wp2_with (first | (go_at_call 11; (with_reducible refine hfit.mono ?_); rintro e w1 ⟨rfl, hg1⟩))
  go_ret2
  exact ⟨rfl, grown_trans hg1 (World.grownBy_alloc _ _ _)⟩
/-! ### what is told of the heap -/
theorem SoundF.heapW {l : List (Nat × Nat)} (h : SoundF (txSee ws l) E bs L) (hws : 8 * ws.length = 4800) : Heap ws l bs 0 := by
  obtain ⟨h1, h2, h3⟩ := h.walks
  refine ⟨.inr ⟨headOk_chk hws h.head, bs.length, true, h1, by unfold wkL; rw [if_pos rfl, h2], rfl⟩, ?_⟩
  have := walks_small (by omega) (headOk_chk hws h.head) h1
  exact this
theorem hw_few (h : HW w0 w T R ws E bs L) : bs.length ≤ 1000000 := by
  obtain ⟨h0, M, B, D, l, h1, h2⟩ := h
  exact (h2.heapW h0).len
theorem hw_walk (h : HW w0 w T R ws E bs L) :
    Calls Tryz.prog 30 #[.pointer (some ⟨T, 0, none⟩)] w fun e w' => ∃ v, e = .returned (.tuple #[v, .int .i64 0]) ∧ OwnB w' w.heap.size 66 v bs ∧ w.grownBy w' none := by
  obtain ⟨h0, M, B, D, l, h1, h2⟩ := h
  exact pwalk_any h1.tx (h2.heapW h0)
theorem hw_size (h : HW w0 w T R ws E bs L) :
    Calls Tryz.prog 31 #[.pointer (some ⟨T, 0, none⟩)] w fun e w' => e = .returned (.int .u64 (E : Nat)) ∧ w.grownBy w' none := by
  obtain ⟨h0, M, B, D, l, h1, h2⟩ := h
  have := hsize_any h1.tx
  rw [h2.top] at this
  exact this
theorem SoundF.listed {f : Nat → Nat} (h : SoundF f E bs L) {c : Nat} (hc : c < 8) : (∀ x ∈ L c, 3776 ≤ x ∧ x % 8 = 0 ∧ x < 4800) ∧ (L c).Nodup := by
  refine ⟨fun x hx => ?_, h.ledg.once c hc⟩
  have := h.grid.lo x (h.ledg.on c hc x hx)
  omega
theorem hw_list_few (h : HW w0 w T R ws E bs L) {c : Nat} (hc : c < 8) : (L c).length ≤ 600 := by
  obtain ⟨h0, M, B, D, l, h1, h2⟩ := h
  obtain ⟨h3, h4⟩ := h2.listed hc
  exact few_places 600 (L c) h4 fun x hx => by have := h3 x hx; omega
theorem hw_list (h : HW w0 w T R ws E bs L) {c : Nat} (hc : c < 8) (hw : WordsAt w la (L c)) (hm : (L c).length = m) :
    Calls Tryz.prog 33 #[.pointer (some ⟨T, 0, none⟩), .int .i64 c, .slice la m k] w fun e w' => e = .returned (.bool true) ∧ w.grownBy w' none := by
  have hf := hw_list_few h hc
  obtain ⟨h0, M, B, D, l, h1, h2⟩ := h
  obtain ⟨h3, h4⟩ := h2.listed hc
  have h64 : ∀ i, (L c).getD i 0 < 18446744073709551616 := fun i => by
    rcases Nat.lt_or_ge i (L c).length with hi | hi
    · have hx : (L c).getD i 0 ∈ L c := by
        rw [List.getD_eq_getElem?_getD, List.getElem?_eq_getElem hi]
        exact List.getElem_mem _
      have := h3 _ hx
      omega
    · rw [List.getD_eq_getElem?_getD, List.getElem?_eq_none hi]
      decide
  have := lcheck_any (c := k) h1.tx (by omega) hw hm (by omega) h64 c
  rw [getH_head hc, decide_eq_true (h2.ledg.check h2.grid hc)] at this
  exact this
theorem hw_tree (h : HW w0 w T R ws E bs L) (hw : WordsAt w la (freesB bs)) (hm : (freesB bs).length = m) :
    Calls Tryz.prog 34 #[.pointer (some ⟨T, 0, none⟩), .slice la m k] w fun e w' => e = .returned (.bool true) ∧ w.grownBy w' none := by
  subst hm
  obtain ⟨h0, M, B, D, l, h1, h2⟩ := h
  have hfew := few_lone h2.freeL.lone
  refine (tcheck_any (c := k) h1.tx (h2.bed h0) (fun _ hx => hx) h2.freeL.nodup hw (by omega)).mono ?_
  rintro e w' ⟨hg, b, rfl, hb⟩
  rw [hb.2 h2.tree.tree]
  exact ⟨rfl, hg⟩
theorem hw_find (h : HW w0 w T R ws E bs L) (off : Nat) :
    Calls Tryz.prog 18 #[.pointer (some ⟨T, 0, none⟩), .int .u64 off] w fun e w' => e = .returned (.tuple #[(besB (pF off) bs 0).val, .bool (besN (pF off) bs 0).isSome]) ∧ w.grownBy w' none := by
  obtain ⟨h0, M, B, D, l, h1, h2⟩ := h
  exact pfind_any h1.tx (h2.heapW h0) off
theorem hz_load (h : HZ w0 w T R ws E bs L p n) {j : Nat} (hj : j < (n + 7) / 8) (hp : p + 8 * j < 18446744073709551616) :
    Calls Tryz.prog 20 #[.pointer (some ⟨T, 0, none⟩), .int .u64 (p + 8 * j : Nat)] w fun e w' => e = .returned (.int .u64 0) ∧ w.grownBy w' none := by
  obtain ⟨h0, M, B, D, l, h1, h2, h3⟩ := h
  have := txload_any h1.tx (p + 8 * j) hp
  rw [h3 j hj] at this
  exact this
/-- a block's bounds -/
theorem hw_bounds (h : HW w0 w T R ws E bs L) : Bounds bs := fun k hk => by
  obtain ⟨h0, M, B, D, l, h1, h2⟩ := h
  have hb := h2.told.is _ (getB_mem hk)
  have h3 := hb.al
  have h4 := hb.hi
  have h5 := h2.low
  show (bs.getD k default).off % 16 = 0 ∧ (bs.getD k default).off < 1000000 ∧ (bs.getD k default).s < 10000000
  omega
end
end Go.Proofs.YtoamlkljfmgomaaGreat
