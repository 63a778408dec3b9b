/-
  Texts of one layer, one behind the other: memory, contracts of the functions, and what follows of them.
  Conditions: as each theorem says.
-/
import Derived.Test.YtcbdbflgfhbikaaGreatLCak
import Derived.Test.YtcbdbflgfhbikaaGreatLCae
import Derived.Test.YtcbdbflgfhbikaaGreatLCaj
import Derived.Test.YtcbdbflgfhbikaaGreatLTrf
import Derived.Test.YtcbdbflgfhbikaaGreatLPhc
import Derived.Test.YtcbdbflgfhbikaaGreatLTrh
import Derived.Test.YtcbdbflgfhbikaaGreatLTaa
import Derived.Laws.StructEq
import Derived.Test.YtcbdbflgfhbikaaGreatLPha
import Derived.Test.YtcbdbflgfhbikaaGreatRows
import Derived.Lib.SmallJoins
import Derived.Deep.SlicePairs
import Derived.ProofKit
import Derived.OpenShut
import Derived.Carry
import Derived.ChangeOld
import Derived.SizedLaws
import Derived.Test.YtcbdbflgfhbikaaGreatLSea
set_option linter.unusedVariables false
set_option linter.unusedSimpArgs false
namespace Go.Proofs.YtcbdbflgfhbikaaGreat
open Go.RowKit
set_option maxRecDepth 100000
def HW (w0 w : World) (T : Nat) (R : Option Nat) (ws : List Nat) (E : Nat) (bs : List Blk) (L : Nat → List Nat) : Prop :=
  8 * ws.length = 4800 ∧ ∃ M B D l, Txs w0 w T M R B D ws l ∧ SoundF (txSee ws l) E bs L
def HZ (w0 w : World) (T : Nat) (R : Option Nat) (ws : List Nat) (E : Nat) (bs : List Blk) (L : Nat → List Nat) (p n : Nat) : Prop :=
  8 * ws.length = 4800 ∧ ∃ M B D l, Txs w0 w T M R B D ws l ∧ SoundF (txSee ws l) E bs L ∧ ∀ j, j < (n + 7) / 8 → txSee ws l (p + 8 * j) = 0
def Snd (E : Nat) (bs : List Blk) (L : Nat → List Nat) : Prop := ∃ f, SoundF f E bs L
structure Fine (K E : Nat) (bs : List Blk) (L : Nat → List Nat) : Prop where
  few : bs.length ≤ K
  low : E ≤ 4800
  is : ∀ b ∈ bs, mayP b.s b.u b.o ∧ b.off % 16 = 0 ∧ b.off + b.s ≤ E ∧ (b.u = true → b.n + 40 ≤ b.s)
  lists : ∀ c, c < 8 → (L c).length ≤ K
def HvK (w : World) (R : Option Nat) (base : Nat) (v : Value) (E : Nat) (bs : List Blk) (L : Nat → List Nat) : Prop :=
  ∃ b vs, v = heapV E b vs ∧ OwnB w base 61 b bs ∧ ∀ c, c < 8 → KW w R base (vs c) (L c)
section
variable {w0 w w' : World} {T : Nat} {R R' : Option Nat} {ws : List Nat} {E n a i base m k p : Nat} {bs : List Blk} {L : Nat → List Nat} {v : Value} {la : Option Addr}
theorem HW.later (h : HW w0 w T R ws E bs L) (hg : w.grownBy w' none) : HW w0 w' T R ws E bs L := by
  obtain ⟨h0, M, B, D, l, h1, h2⟩ := h
  exact ⟨h0, M, B, D, l, h1.later hg, h2⟩
theorem HW.since (h : HW w0 w T R ws E bs L) : w0.grownBy w none := by
  obtain ⟨h0, M, B, D, l, h1, h2⟩ := h
  exact h1.since
theorem HZ.heap (h : HZ w0 w T R ws E bs L p n) : HW w0 w T R ws E bs L := by
  obtain ⟨h0, M, B, D, l, h1, h2, _⟩ := h
  exact ⟨h0, M, B, D, l, h1, h2⟩
theorem HZ.later (h : HZ w0 w T R ws E bs L p n) (hg : w.grownBy w' none) : HZ w0 w' T R ws E bs L p n := by
  obtain ⟨h0, M, B, D, l, h1, h2, h3⟩ := h
  exact ⟨h0, M, B, D, l, h1.later hg, h2, h3⟩
theorem HvK.is (h : HvK w R base v E bs L) : HvIs w base v E bs L := by
  obtain ⟨b, vs, h1, h2, h3⟩ := h
  exact ⟨⟨b, vs, h1, h2, fun c hc => (h3 c hc).1⟩⟩
theorem HvK.later (h : HvK w R base v E bs L) (hg : w.grownBy w' none) : HvK w' R base v E bs L := by
  obtain ⟨b, vs, h1, h2, h3⟩ := h
  exact ⟨b, vs, h1, h2.later hg, fun c hc => (h3 c hc).later hg⟩
theorem HvK.mono {base' : Nat} (h : HvK w R base v E bs L) (hb : base' ≤ base) : HvK w R base' v E bs L := by
  obtain ⟨b, vs, h1, h2, h3⟩ := h
  exact ⟨b, vs, h1, h2.mono hb, fun c hc => (h3 c hc).mono hb⟩
theorem Keep.blks {t : TypeId} {l : List Blk} (K : Keep w R w' R') (h : OwnB w base t v l) (h1 : t ≠ 96) (h2 : t ≠ 23) : OwnB w' base t v l := by
  refine ⟨h.1, ?_⟩
  rcases h.2 with hn | ⟨g, cap, cur, rfl, hb, hgg, rest⟩
  · exact .inl hn
  · exact .inr ⟨g, cap, cur, rfl, hb, K.far hgg h1 h2, rest⟩
theorem HvK.step (h : HvK w R base v E bs L) (K : Keep w R w' R') : HvK w' R' base v E bs L := by
  obtain ⟨b, vs, h1, h2, h3⟩ := h
  exact ⟨b, vs, h1, K.blks h2 (by decide) (by decide), fun c hc => K.row (h3 c hc)⟩
theorem HW.newR (h : HW w0 w T R ws E bs L) {g : Nat} (hg : R = some g) : g < w.heap.size := by
  obtain ⟨h0, M, B, D, l, h1, h2⟩ := h
  exact h1.tx.ltR hg
theorem HW.row (h : HW w0 w T R ws E bs L) {xs : List Nat} (ho : OwnW w' base v xs) (hb : w.heap.size ≤ base) : KW w' R base v xs :=
  ⟨ho, fun g hg e => by
    have := h.newR e
    have := (World.ownsRow.lt ho g hg).1
    omega⟩
theorem HvIs.beside {E' : Nat} {bs' : List Blk} {L' : Nat → List Nat} (hv : HvIs w' base v E' bs' L') (h : HW w0 w T R ws E bs L) (hb : w.heap.size ≤ base) : HvK w' R base v E' bs' L' := by
  obtain ⟨b, vs, h1, h2, h3⟩ := hv.is
  exact ⟨b, vs, h1, h2, fun c hc => h.row (h3 c hc) hb⟩
theorem fitErr_arg (h : ¬ alignP a) : fitErr bs n a = 1 := by unfold fitErr; rw [if_pos h]
theorem fitErr_size (h : alignP a) (hn : 18446744073709551560 < n) : fitErr bs n a = 2 := by unfold fitErr; rw [if_neg (fun k => k h), if_pos hn]
theorem fitErr_none (h : alignP a) (hn : n ≤ 18446744073709551560) (hf : fitM bs n a = none) : fitErr bs n a = 3 := by unfold fitErr; rw [if_neg (fun k => k h), if_neg (by omega), if_pos hf]
theorem fitErr_some (h : alignP a) (hn : n ≤ 18446744073709551560) (hf : fitM bs n a = some i) : fitErr bs n a = 0 := by unfold fitErr; rw [if_neg (fun k => k h), if_neg (by omega), if_neg (by rw [hf]; simp)]
theorem hw_fit_ok (h : HW w0 w T R ws E bs L) (ha : alignP a) (hn : n ≤ 18446744073709551560) (hfi : fitM bs n a = some i) :
    Calls Tryz.prog 19 #[.pointer (some ⟨T, 0, none⟩), .int .u64 n, .int .u64 a] w fun e w' => e = .returned (.tuple #[.agg #[.int .u64 (gO bs i : Nat), .int .u64 (padN (gO bs i) a : Nat), .int .u64 (needOf n : Nat)], .int .i64 0]) ∧ w.grownBy w' none := by
  obtain ⟨h0, M, B, D, l, h1, h2⟩ := h
  refine (hfit_any h1.tx h0 h2.heap ha hn).mono ?_
  rintro e w' ⟨h3 | h3, hg⟩
  · obtain ⟨i', e1, e2⟩ := h3
    have : i' = i := Option.some.inj (e1.symm.trans hfi)
    subst this
    exact ⟨e2, hg⟩
  · rw [hfi] at h3; cases h3.1
theorem hw_fit_bad (h : HW w0 w T R ws E bs L) (hn : n < 18446744073709551616) (ha : a < 18446744073709551616) {e : Nat} (he : fitErr bs n a = e) (hp : 0 < e) :
    Calls Tryz.prog 19 #[.pointer (some ⟨T, 0, none⟩), .int .u64 n, .int .u64 a] w fun e' w' => e' = .returned (.tuple #[.agg #[.int .u64 0, .int .u64 0, .int .u64 0], .int .i64 (e : Nat)]) ∧ w.grownBy w' none := by
  obtain ⟨h0, M, B, D, l, h1, h2⟩ := h
  subst he
  by_cases hA : alignP a
  · by_cases hN : 18446744073709551560 < n
    · rw [fitErr_size hA hN]
      exact cfit_size hA hN hn _ w
    · cases hf : fitM bs n a with
      | some i => rw [fitErr_some hA (by omega) hf] at hp; cases hp
      | none =>
        rw [fitErr_none hA (by omega) hf]
        refine (hfit_any h1.tx h0 h2.heap hA (by omega)).mono ?_
        rintro e w' ⟨h3 | h3, hg⟩
        · obtain ⟨i', e1, e2⟩ := h3
          rw [hf] at e1; cases e1
        · exact ⟨h3.2, hg⟩
  · rw [fitErr_arg hA]
    exact cfit_arg ha hA _ n w
theorem hw_take_zero (h : HW w0 w T R ws E bs L) {owner : Nat} (ha : alignP a) (hn : n ≤ 18446744073709551560) (how : owner ≤ 8) (hfi : fitM bs n a = some i) :
    Calls Tryz.prog 64 #[.pointer (some ⟨T, 0, none⟩), .int .i64 owner, .int .u64 n, .int .u64 a] w fun e w' => e = .returned (.tuple #[.int .u64 (gO bs i + padN (gO bs i) a + 32 : Nat), .int .i64 0]) ∧ ∃ R', HZ w0 w' T R' ws E (takeB bs i (padN (gO bs i) a) (needOf n) owner n) (takeL L owner (gO bs i + padN (gO bs i) a)) (gO bs i + padN (gO bs i) a + 32) n ∧ Keep w R w' R' := by
  obtain ⟨h0, M, B, D, l, h1, h2⟩ := h
  refine (htake_ok h1 h0 h2 ha hn how hfi).mono ?_
  rintro e w' ⟨rfl, R', l', X, hs, K⟩
  exact ⟨rfl, R', ⟨h0, M, B, D, l', X, hs.1, hs.2.1⟩, K⟩
theorem hw_take_ok (h : HW w0 w T R ws E bs L) {owner : Nat} (ha : alignP a) (hn : n ≤ 18446744073709551560) (how : owner ≤ 8) (hfi : fitM bs n a = some i) :
    Calls Tryz.prog 64 #[.pointer (some ⟨T, 0, none⟩), .int .i64 owner, .int .u64 n, .int .u64 a] w fun e w' => e = .returned (.tuple #[.int .u64 (gO bs i + padN (gO bs i) a + 32 : Nat), .int .i64 0]) ∧ ∃ R', HW w0 w' T R' ws E (takeB bs i (padN (gO bs i) a) (needOf n) owner n) (takeL L owner (gO bs i + padN (gO bs i) a)) ∧ Keep w R w' R' :=
  (hw_take_zero h ha hn how hfi).mono fun e w' ⟨h1, R', h2, h3⟩ => ⟨h1, R', h2.heap, h3⟩
theorem hw_take_bad (h : HW w0 w T R ws E bs L) (hn : n < 18446744073709551616) (ha : a < 18446744073709551616) {owner : Int} (h0 : 0 ≤ owner) (h8 : owner ≤ 8) {e : Nat} (he : fitErr bs n a = e) (hp : 0 < e) :
    Calls Tryz.prog 64 #[.pointer (some ⟨T, 0, none⟩), .int .i64 owner, .int .u64 n, .int .u64 a] w fun e' w' => e' = .returned (.tuple #[.int .u64 0, .int .i64 (e : Nat)]) ∧ w.grownBy w' none := by
  have hfit := hw_fit_bad h hn ha he hp
  have i1 : ¬ owner < 0 := by omega
  have i2 : ¬ 8 < owner := by omega
  have e0 : ¬ (e : Int) = 0 := by omega
  have e1 : ((e : Int) != 0) = true := by simpa using e0
  clear he h
  go_enter Tryz.func64, Tryz.ntmps64
  go_wp2_with (first | (go_at_call 19; (with_reducible refine hfit.mono ?_); rintro e w1 ⟨rfl, hg1⟩))
  go_ret2
  exact ⟨rfl, grown_trans hg1 (World.grownBy_alloc _ _ _)⟩
theorem SoundF.heapW {l : List (Nat × Nat)} (h : SoundF (txSee ws l) E bs L) (hws : 8 * ws.length = 4800) : Heap ws l bs 0 := by
  obtain ⟨h1, h2, h3⟩ := h.walks
  refine ⟨.inr ⟨headOk_chk hws h.head, bs.length, true, h1, by unfold wkL; rw [if_pos rfl, h2], rfl⟩, ?_⟩
  have := walks_small (by omega) (headOk_chk hws h.head) h1
  exact this
theorem hw_few (h : HW w0 w T R ws E bs L) : bs.length ≤ 1000000 := by
  obtain ⟨h0, M, B, D, l, h1, h2⟩ := h
  exact (h2.heapW h0).len
theorem hw_walk (h : HW w0 w T R ws E bs L) :
    Calls Tryz.prog 24 #[.pointer (some ⟨T, 0, none⟩)] w fun e w' => ∃ v, e = .returned (.tuple #[v, .int .i64 0]) ∧ OwnB w' w.heap.size 45 v bs ∧ w.grownBy w' none := by
  obtain ⟨h0, M, B, D, l, h1, h2⟩ := h
  exact pwalk_any h1.tx (h2.heapW h0)
theorem hw_size (h : HW w0 w T R ws E bs L) :
    Calls Tryz.prog 22 #[.pointer (some ⟨T, 0, none⟩)] w fun e w' => e = .returned (.int .u64 (E : Nat)) ∧ w.grownBy w' none := by
  obtain ⟨h0, M, B, D, l, h1, h2⟩ := h
  have := hsize_any h1.tx
  rw [h2.top] at this
  exact this
theorem SoundF.listed {f : Nat → Nat} (h : SoundF f E bs L) {c : Nat} (hc : c < 8) : (∀ x ∈ L c, 3776 ≤ x ∧ x % 8 = 0 ∧ x < 4800) ∧ (L c).Nodup := by
  refine ⟨fun x hx => ?_, h.ledg.once c hc⟩
  have := h.grid.lo x (h.ledg.on c hc x hx)
  omega
theorem HW.snd (h : HW w0 w T R ws E bs L) : Snd E bs L := by
  obtain ⟨h0, M, B, D, l, h1, h2⟩ := h
  exact ⟨_, h2⟩
theorem snd_list_few (h : Snd E bs L) {c : Nat} (hc : c < 8) : (L c).length ≤ 600 := by
  obtain ⟨f, h2⟩ := h
  obtain ⟨h3, h4⟩ := h2.listed hc
  exact few_places 600 (L c) h4 fun x hx => by have := h3 x hx; omega
theorem hw_list_few (h : HW w0 w T R ws E bs L) {c : Nat} (hc : c < 8) : (L c).length ≤ 600 := snd_list_few h.snd hc
theorem hw_list (h : HW w0 w T R ws E bs L) {c : Nat} (hc : c < 8) (hw : WordsAt w la (L c)) (hm : (L c).length = m) :
    Calls Tryz.prog 38 #[.pointer (some ⟨T, 0, none⟩), .int .i64 c, .slice la m k] w fun e w' => e = .returned (.bool true) ∧ w.grownBy w' none := by
  have hf := hw_list_few h hc
  obtain ⟨h0, M, B, D, l, h1, h2⟩ := h
  obtain ⟨h3, h4⟩ := h2.listed hc
  have h64 : ∀ i, (L c).getD i 0 < 18446744073709551616 := fun i => by
    rcases Nat.lt_or_ge i (L c).length with hi | hi
    · have hx : (L c).getD i 0 ∈ L c := by
        rw [List.getD_eq_getElem?_getD, List.getElem?_eq_getElem hi]
        exact List.getElem_mem _
      have := h3 _ hx
      omega
    · rw [List.getD_eq_getElem?_getD, List.getElem?_eq_none hi]
      decide
  have := lcheck_any (c := k) h1.tx (by omega) hw hm (by omega) h64 c
  rw [getH_head hc, decide_eq_true (h2.ledg.check h2.grid hc)] at this
  exact this
theorem hw_tree (h : HW w0 w T R ws E bs L) (hw : WordsAt w la (freesB bs)) (hm : (freesB bs).length = m) :
    Calls Tryz.prog 39 #[.pointer (some ⟨T, 0, none⟩), .slice la m k] w fun e w' => e = .returned (.bool true) ∧ w.grownBy w' none := by
  subst hm
  obtain ⟨h0, M, B, D, l, h1, h2⟩ := h
  have hfew := few_lone h2.freeL.lone
  refine (tcheck_any (c := k) h1.tx (h2.bed h0) (fun _ hx => hx) h2.freeL.nodup hw (by omega)).mono ?_
  rintro e w' ⟨hg, b, rfl, hb⟩
  rw [hb.2 h2.tree.tree]
  exact ⟨rfl, hg⟩
theorem hw_find (h : HW w0 w T R ws E bs L) (off : Nat) :
    Calls Tryz.prog 14 #[.pointer (some ⟨T, 0, none⟩), .int .u64 off] w fun e w' => e = .returned (.tuple #[(besB (pF off) bs 0).val, .bool (besN (pF off) bs 0).isSome]) ∧ w.grownBy w' none := by
  obtain ⟨h0, M, B, D, l, h1, h2⟩ := h
  exact pfind_any h1.tx (h2.heapW h0) off
theorem snd_bounds (h : Snd E bs L) : Bounds bs := fun k hk => by
  obtain ⟨f, h2⟩ := h
  have hb := h2.told.is _ (getB_mem hk)
  have h3 := hb.al
  have h4 := hb.hi
  have h5 := h2.low
  show (bs.getD k default).off % 16 = 0 ∧ (bs.getD k default).off < 1000000 ∧ (bs.getD k default).s < 10000000
  omega
theorem hw_bounds (h : HW w0 w T R ws E bs L) : Bounds bs := snd_bounds h.snd
theorem Fine.bounds {K : Nat} (h : Fine K E bs L) : Bounds bs := fun k hk => by
  have h1 := h.is _ (getB_mem hk)
  have h2 := h.low
  show (bs.getD k default).off % 16 = 0 ∧ (bs.getD k default).off < 1000000 ∧ (bs.getD k default).s < 10000000
  omega
end
end Go.Proofs.YtcbdbflgfhbikaaGreat
namespace Go.Proofs.YtcbdbflgfhbikaaGreat
open Go.RowKit
set_option maxRecDepth 100000
def tkP (bs : List Blk) (n a : Nat) : Nat := match fitM bs n a with | some i => gO bs i + padN (gO bs i) a + 32 | none => 0
def tkE (bs : List Blk) (n a : Nat) : Nat := match fitM bs n a with | some _ => 0 | none => 3
def tkB (bs : List Blk) (owner n a : Nat) : List Blk := match fitM bs n a with | some i => takeB bs i (padN (gO bs i) a) (needOf n) owner n | none => bs
def tkL (bs : List Blk) (L : Nat → List Nat) (owner n a : Nat) : Nat → List Nat := match fitM bs n a with | some i => takeL L owner (gO bs i + padN (gO bs i) a) | none => L
section
variable {w0 w w' : World} {T : Nat} {R R' : Option Nat} {ws : List Nat} {E n a i base m k p owner : Nat} {bs : List Blk} {L : Nat → List Nat} {v : Value} {la : Option Addr}
theorem snd_few600 (h : Snd E bs L) : bs.length ≤ 600 := by
  obtain ⟨f, h2⟩ := h
  have hnd : (bs.map Blk.off).Nodup := by
    have := h2.told.apart
    unfold List.Nodup
    rw [List.pairwise_map]
    refine this.imp_of_mem fun {x y} hx hy hxy => ?_
    have := (h2.told.is x hx).size
    omega
  have := few_places 600 (bs.map Blk.off) hnd fun x hx => by
    obtain ⟨b, hb, rfl⟩ := List.mem_map.1 hx
    have h3 := h2.told.is b hb
    have := h3.al
    have := h3.hi
    have := h3.size
    have := h2.low
    omega
  rwa [List.length_map] at this
theorem Snd.fine (h : Snd E bs L) : Fine 600 E bs L := by
  have h1 := snd_few600 h
  have h2 := fun c hc => snd_list_few h (c := c) hc
  obtain ⟨f, h3⟩ := h
  refine ⟨h1, h3.low, fun b hb => ?_, h2⟩
  have h4 := h3.told.is b hb
  exact ⟨h4.may, h4.al, h4.hi, fun hu => by have := h4.len; rw [if_pos hu] at this; exact this.2⟩
theorem hw_few600 (h : HW w0 w T R ws E bs L) : bs.length ≤ 600 := snd_few600 h.snd
theorem tk_code (h : HW w0 w T R ws E bs L) (ha : alignP a) (hn : n ≤ 18446744073709551560) (how : owner ≤ 8) :
    Calls Tryz.prog 64 #[.pointer (some ⟨T, 0, none⟩), .int .i64 owner, .int .u64 n, .int .u64 a] w fun e w' => e = .returned (.tuple #[.int .u64 (tkP bs n a : Nat), .int .i64 (tkE bs n a : Nat)]) ∧ ∃ R', HW w0 w' T R' ws E (tkB bs owner n a) (tkL bs L owner n a) ∧ Keep w R w' R' := by
  have hal := ha.le
  unfold tkP tkE tkB tkL
  cases hf : fitM bs n a with
  | some i => exact hw_take_ok h ha hn how hf
  | none =>
    refine (hw_take_bad h (owner := owner) (by omega) (by omega) (by omega) (by omega) (fitErr_none ha hn hf) (by decide)).mono ?_
    rintro e w' ⟨rfl, hg⟩
    exact ⟨rfl, R, h.later hg, Keep.of_grown hg⟩
theorem tk_fine {V : World} {R0 : Option Nat} {K : Nat} (h : Fine K E bs L) (hK : K ≤ 800) (hR : ∀ g, R0 = some g → g < V.heap.size) (hv : HvK V R0 base v E bs L) (hb : base ≤ V.heap.size) (ha : alignP a) (hn : n ≤ 18446744073709551560) (how : owner ≤ 8) :
    Calls Tryz.prog 36 #[v, .int .i64 owner, .int .u64 n, .int .u64 a] V fun e w' => ∃ v', e = .returned (.tuple #[v', .int .u64 (tkP bs n a : Nat), .int .i64 (tkE bs n a : Nat)]) ∧ HvK w' R0 base v' E (tkB bs owner n a) (tkL bs L owner n a) ∧ V.grownBy w' none := by
  have hal := ha.le
  have h6 := h.few
  have hbd := h.bounds
  have hl := h.lists
  unfold tkP tkE tkB tkL
  cases hf : fitM bs n a with
  | some i =>
    obtain ⟨b0, vs0, e0, o0, k0⟩ := hv
    have hv8 : HvIs V base v E bs (fun c => if c < 8 then L c else []) :=
      ⟨⟨b0, vs0, e0, o0, fun c hc => by show OwnW V base (vs0 c) (if c < 8 then L c else []); rw [if_pos hc]; exact (k0 c hc).1⟩⟩
    refine (rtake10_ok hv8 hb (by omega) hbd ha hn how hf fun c => ?_).mono ?_
    · show (if c < 8 then L c else []).length ≤ 1000
      by_cases hc : c < 8
      · rw [if_pos hc]; have := hl c hc; omega
      · rw [if_neg hc]; decide
    · rintro e w' ⟨v', rfl, h1, hrw, hg⟩
      obtain ⟨b, vs, q1, q2, q3⟩ := h1.is
      obtain ⟨b', vs', q4, q5⟩ := hrw E b0 vs0 e0
      have q6 := (heapV_inj (q1.symm.trans q4)).2
      refine ⟨v', rfl, ⟨b, vs, q1, q2, fun c hc => ⟨?_, fun g hg e => ?_⟩⟩, hg⟩
      · have := q3 c hc
        show OwnW w' base (vs c) (takeL L owner (gO bs i + padN (gO bs i) a) c)
        unfold takeL at this ⊢
        by_cases h0 : owner = 0
        · rw [if_pos h0] at this ⊢
          simp only [hc, if_true] at this
          exact this
        · rw [if_neg h0] at this ⊢
          unfold setL at this ⊢
          have ho8 : owner - 1 < 8 := by omega
          simp only [hc, ho8, if_true] at this
          exact this
      · rw [q6 c hc] at hg
        rcases q5 c hc with h7 | h7
        · rw [h7] at hg
          exact (k0 c hc).2 g hg e
        · have := h7 g hg
          have := hR g e
          omega
  | none =>
    refine (rtake10_bad hv.is (by omega) hbd (by omega) (by omega) (by omega) (by omega) (fitErr_none ha hn hf) (by decide)).mono ?_
    rintro e w' ⟨rfl, hg⟩
    exact ⟨v, rfl, hv.later hg, hg⟩
theorem tk_ref {V : World} {R0 : Option Nat} (h : HW w0 w T R ws E bs L) (hR : ∀ g, R0 = some g → g < V.heap.size) (hv : HvK V R0 base v E bs L) (hb : base ≤ V.heap.size) (ha : alignP a) (hn : n ≤ 18446744073709551560) (how : owner ≤ 8) :
    Calls Tryz.prog 36 #[v, .int .i64 owner, .int .u64 n, .int .u64 a] V fun e w' => ∃ v', e = .returned (.tuple #[v', .int .u64 (tkP bs n a : Nat), .int .i64 (tkE bs n a : Nat)]) ∧ HvK w' R0 base v' E (tkB bs owner n a) (tkL bs L owner n a) ∧ V.grownBy w' none := tk_fine h.snd.fine (by decide) hR hv hb ha hn how
theorem HW.other {b : Nat} {c : Array Value} {t : TypeId} (h : HW w0 w T R ws E bs L) (hb : w.heap[b]? = some (.cells c t (0, 0))) (h1 : t ≠ 96) (h2 : t ≠ 23) (h3 : t ≠ 166) (h4 : t ≠ 5) (hn : w0.heap.size ≤ b) (hg : w.grownBy w' (some b)) : HW w0 w' T R ws E bs L := by
  obtain ⟨h0, M, B, D, l, X, hS⟩ := h
  refine ⟨h0, M, B, D, l, ⟨X.tx.turned (Turned.of_grown hg) (fun k hk => ?_), grown_step X.since hg (fun i hi => .inl (by injection hi with hi; omega)), X.newT, X.newM, X.newR, X.newB, X.newD⟩, hS⟩
  injection hk with hk
  subst hk
  exact ⟨X.tx.far hb h1 h2, fun e => ne_type hb X.tx.seg.head h3 e, fun e => ne_type hb X.tx.seg.data h4 e⟩
theorem own_other {b : Nat} {c : Array Value} {t e : TypeId} {size : Nat} {xs : List Value} (h : w.ownsRow base e size v m xs) (hb : w.heap[b]? = some (.cells c t (0, 0))) (hne : t ≠ e) (hg : w.grownBy w' (some b)) : w'.ownsRow base e size v m xs :=
  World.ownsRow.kept h hg (by
    by_cases e : v.ownBlock = none
    · exact .inl e
    · refine .inr fun e2 => ?_
      obtain ⟨g, hg2⟩ := Option.ne_none_iff_exists'.1 e
      obtain ⟨_, cur, hb2⟩ := row_block h hg2
      rw [hg2] at e2
      injection e2 with e2
      subst e2
      rw [hb] at hb2
      injection hb2 with hb2
      injection hb2 with _ hb2 _
      exact hne hb2)
theorem HvK.other {b : Nat} {c : Array Value} {t : TypeId} (h : HvK w R base v E bs L) (hb : w.heap[b]? = some (.cells c t (0, 0))) (h1 : t ≠ 61) (h2 : t ≠ 23) (hg : w.grownBy w' (some b)) : HvK w' R base v E bs L := by
  obtain ⟨bl, vs, q1, q2, q3⟩ := h
  exact ⟨bl, vs, q1, own_other q2 hb h1 hg, fun c hc => ⟨own_other (q3 c hc).1 hb h2 hg, (q3 c hc).2⟩⟩
theorem HvK.lie (h : HvK w R base v E bs L) : ∃ (la : Option Addr) (n c : Nat) (va : Nat → Option Addr) (ln vc : Nat → Nat), v = heapV E (.slice la n c) (fun c => .slice (va c) (ln c) (vc c)) ∧ bs.length = n := by
  obtain ⟨b, vs, rfl, h2, h3⟩ := h
  obtain ⟨la, c, rfl, _⟩ := h2.at_
  obtain ⟨va, ln, vc, e, _⟩ := heap_lie (E := E) (b := .slice la bs.length c) fun c hc => (h3 c hc).1
  exact ⟨la, _, c, va, ln, vc, e, rfl⟩
end
end Go.Proofs.YtcbdbflgfhbikaaGreat
namespace Go.Proofs.YtcbdbflgfhbikaaGreat
open Go.ChangeShapes Go.WideShapes Go.ChangeAt Go.RowKit Go.Deep
set_option maxRecDepth 100000
section
variable {w0 w : World} {T : Nat} {R : Option Nat} {ws : List Nat} {E : Nat} {bs : List Blk} {L : Nat → List Nat}
theorem hw_find_used (h : HW w0 w T R ws E bs L) {b : Blk} (hb : b ∈ bs) (hu : b.u = true) :
    Calls Tryz.prog 14 #[.pointer (some ⟨T, 0, none⟩), .int .u64 (b.off + 32 : Nat)] w fun e w' => e = .returned (.tuple #[b.val, .bool true]) ∧ w.grownBy w' none := by
  have hf := hw_find h (b.off + 32)
  obtain ⟨h0, M, B, D, l, h1, h2⟩ := h
  obtain ⟨k, hk, e⟩ := List.mem_iff_getElem.1 hb
  have ek : bs.getD k default = b := by rw [List.getD_eq_getElem?_getD, List.getElem?_eq_getElem hk]; exact e
  have hbnd := h2.told.is b hb
  have h3 := hbnd.hi
  have h4 := h2.low
  have hn : fstN (pF (b.off + 32)) bs = some k := fstN_is hk (by rw [ek]; unfold pF; rw [hu, decide_eq_true (by omega)]; rfl) fun j hj => by
    have hj' : j < bs.length := by omega
    have hlt := h2.told.rise hj hk
    rw [ek] at hlt
    unfold pF
    rw [decide_eq_false (by omega), Bool.and_false]
  have e1 : besN (pF (b.off + 32)) bs 0 = some b := by
    unfold besN
    rw [hn]
    dsimp only
    rw [if_pos (by omega), show ((k : Int) + 0).toNat = k by omega, ek]
  have e2 : besB (pF (b.off + 32)) bs 0 = b := by
    unfold besB
    rw [e1]
    rfl
  rw [e1, e2] at hf
  exact hf
end
end Go.Proofs.YtcbdbflgfhbikaaGreat
