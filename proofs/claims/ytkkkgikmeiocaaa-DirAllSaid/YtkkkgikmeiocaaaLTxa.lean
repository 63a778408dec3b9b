/-
  Texts of one layer, one behind the other: memory, contracts of the functions, and what follows of them.
  Conditions: as each theorem says.
-/
import Derived.Test.YtkkkgikmeiocaaaRows
import Derived.Deep.RegionHeld3
import Derived.ProofKit
import Derived.Test.YtkkkgikmeiocaaaLSea
import Derived.Lib.SmallJoins
import Derived.Deep.SlicePairs
import Derived.OpenShut
import Derived.Carry
import Derived.ChangeOld
import Derived.SizedLaws
import Derived.RangeFuncBox
import Derived.RangeFuncNested
import Derived.RangeFuncBound
import Derived.RangeFuncCalls
import Derived.RangeFuncLeaves
import Derived.Shelf.Abstract
import Derived.Shelf.RegionOpen
import Derived.OwnWalkIn
import Derived.TacticsInMore
import Derived.LoopNIn
import Derived.LoopIn
import Derived.Maps.OwnIn
set_option linter.unusedVariables false
set_option linter.unusedSimpArgs false
namespace Go.Proofs.Ytkkkgikmeiocaaa
section
variable {P : Program} {md : Region.Mode} {ops : Array Oper} {Q : Exit → Act → World → Prop} {S : World → Prop}
theorem held_yes (i : Nat) (t : Tmp) {oi : Oper} {v : Value} {fuel : Nat} {listed : Array Bool} {a : Act} {w : World} (hi : ops[i]? = some oi) (hd : oi.dst = some t)
    (hs : Region.noSelect ops = true) (hf : Region.free md ops listed i = true) (hr : (Region.ready md ops listed).contains i = true)
    (hQ : ∀ c a w, Q (.panic c) (a.put (some t) v) w → Q (.panic c) a w) (hw : Region.wanted oi (yielded ops a.tmps) = true) (hy : ∀ w, S w → (execOp a.eval oi).run P w = .ok (.value v) w) (hS : S w)
    (h : wpAnyH P md ops Q S fuel (listed.setIfInBounds i true) (a.put (some t) v) w) : wpAnyH P md ops Q S (fuel + 1) listed a w :=
  wpAnyH_take hi hs hf hr (by rw [hd]; exact hQ) (Or.inl ⟨hw, hy⟩) hS (by rw [hd]; exact h)
theorem held_skip (i : Nat) (t : Tmp) {oi : Oper} {fuel : Nat} {listed : Array Bool} {a : Act} {w : World} (hi : ops[i]? = some oi) (hd : oi.dst = some t)
    (hs : Region.noSelect ops = true) (hf : Region.free md ops listed i = true) (hr : (Region.ready md ops listed).contains i = true)
    (hQ : ∀ c a w, Q (.panic c) (a.put (some t) undef) w → Q (.panic c) a w) (hw : Region.wanted oi (yielded ops a.tmps) = false) (hS : S w)
    (h : wpAnyH P md ops Q S fuel (listed.setIfInBounds i true) (a.put (some t) undef) w) : wpAnyH P md ops Q S (fuel + 1) listed a w :=
  wpAnyH_take hi hs hf hr (by rw [hd]; exact hQ) (Or.inr ⟨hw, rfl⟩) hS (by rw [hd]; exact h)
end
end Go.Proofs.Ytkkkgikmeiocaaa
namespace Go.Proofs.Ytkkkgikmeiocaaa
open Go.ChangeShapes Go.WideShapes Go.ChangeAt Go.RowKit Go.Deep
set_option maxRecDepth 100000
theorem cells_put : Try.prog.cellsOf 89 = 2 := by kernel_rfl
theorem cells_u64 : Try.prog.cellsOf 31 = 1 := by kernel_rfl
section
variable {H : Type} {enc : TypeId × Value → H} {w : World}
theorem open_puts {r : Reach} {b0 : Nat} {v : Value} {d : DataW H} {p : List MemPlace} (hv : Value.okWide Try.prog w r b0 22 v) (h : DataW.Trod enc Try.prog w 0 (fun _ => true) true 22 v d p) :
    ∃ la n c X V, v = .slice la n c ∧ n ≤ maxLen ∧ PutsAt w la n X V := by
  obtain ⟨a0, l0, c0, rfl⟩ := okWide_slice Try.underlying22 hv
  obtain ⟨fuel, hf⟩ := h
  rcases open_slice_pairs Try.underlying22 Try.underlying89 cells_put rfl rfl cells_u64 cells_u64 hf with ⟨h0, _⟩ | ⟨a, len, cap, m, n, V0, V1, D0, D1, P0, P1, hcs, _, hl, hm, hmeq, hx, hall⟩
  · simp [Value.cells] at h0
    obtain ⟨rfl, rfl, rfl⟩ := h0
    exact ⟨none, 0, 0, fun _ => 0, fun _ => 0, rfl, Nat.zero_le _, ⟨fun _ => ⟨by decide, by decide⟩, fun h => by omega⟩⟩
  · simp [Value.cells] at hcs
    obtain ⟨rfl, rfl, rfl⟩ := hcs
    simp only [if_true] at hmeq
    subst hmeq
    have key : ∀ i, i < l0 → ∃ x y : Nat, V0 i = .int .u64 x ∧ V1 i = .int .u64 y ∧ x < 18446744073709551616 ∧ y < 18446744073709551616 := by
      intro i hi
      obtain ⟨_, _, t0, t1⟩ := hall i (by omega)
      obtain ⟨k0, e0, _, w0⟩ := DataW.trod_int Try.underlying31 t0
      obtain ⟨k1, e1, _, w1⟩ := DataW.trod_int Try.underlying31 t1
      simp only [List.cons.injEq, and_true] at e0 e1
      have b0 := bounds_u64 w0
      have b1 := bounds_u64 w1
      obtain ⟨x, rfl⟩ := Int.eq_ofNat_of_zero_le b0.1
      obtain ⟨y, rfl⟩ := Int.eq_ofNat_of_zero_le b1.1
      exact ⟨x, y, e0, e1, by omega, by omega⟩
    refine ⟨some a, l0, m, fun i => if h : i < l0 then (key i h).choose else 0, fun i => if h : i < l0 then (key i h).choose_spec.choose else 0, rfl, by omega, ⟨fun i => ?_, fun hn => ?_⟩⟩
    · by_cases hi : i < l0
      · simp only [hi, dif_pos]
        exact ⟨(key i hi).choose_spec.choose_spec.2.2.1, (key i hi).choose_spec.choose_spec.2.2.2⟩
      · simp only [hi, dif_neg, not_false_eq_true]
        exact ⟨by decide, by decide⟩
    · obtain ⟨c00, _⟩ := hall 0 (by omega)
      obtain ⟨b, off, spot⟩ := a
      have hsp : spot = none := by
        rcases spot with _ | s
        · rfl
        · simp [World.cell?, Addr.add] at c00
          split at c00 <;> simp_all
      subst hsp
      have hadd : ∀ j, (⟨b, off, none⟩ : Addr).add j = ⟨b, off + j, none⟩ := fun j => by unfold Addr.add; split <;> simp_all
      refine ⟨b, off, rfl, ?_, fun i hi => ?_⟩
      · rw [hadd] at c00
        rcases Nat.lt_or_ge b w.heap.size with h | h
        · exact h
        · simp [World.cell?, Array.getElem?_eq_none h] at c00
      · obtain ⟨c0, c1, _⟩ := hall i (by omega)
        rw [hadd] at c0 c1
        simp only [hi, dif_pos]
        obtain ⟨h1, h2, _⟩ := (key i hi).choose_spec.choose_spec
        exact ⟨c0.trans (congrArg some h1), by rw [Nat.add_assoc]; exact c1.trans (congrArg some h2)⟩
end
end Go.Proofs.Ytkkkgikmeiocaaa
namespace Go.Proofs.Ytkkkgikmeiocaaa
open Go.RowKit
def txGet : List (Nat × Nat) → Nat → Option Nat
  | [], _ => none
  | p :: r, off => if p.1 = off then some p.2 else txGet r off
def txSet : List (Nat × Nat) → Nat → Nat → List (Nat × Nat)
  | [], off, v => [(off, v)]
  | p :: r, off, v => if p.1 = off then (off, v) :: r else p :: txSet r off v
def txKeys (l : List (Nat × Nat)) : List Nat := l.map Prod.fst
theorem txKeys_len (l : List (Nat × Nat)) : (txKeys l).length = l.length := by simp [txKeys]
theorem txGet_set (l : List (Nat × Nat)) (off v x : Nat) : txGet (txSet l off v) x = if x = off then some v else txGet l x := by
  induction l with
  | nil =>
    unfold txSet txGet
    by_cases e : off = x
    · rw [if_pos e, if_pos e.symm]
    · rw [if_neg e, if_neg (fun h => e h.symm)]; rfl
  | cons p r ih =>
    unfold txSet
    by_cases e : p.1 = off
    · rw [if_pos e]
      unfold txGet
      by_cases e2 : x = off
      · subst e2; simp
      · rw [if_neg (fun h => e2 h.symm), if_neg e2]
        by_cases e3 : p.1 = x
        · omega
        · rw [if_neg e3]
    · rw [if_neg e]
      unfold txGet
      by_cases e3 : p.1 = x
      · rw [if_pos e3, if_pos e3, if_neg (by omega)]
      · rw [if_neg e3, if_neg e3, ih]
theorem txGet_none {l : List (Nat × Nat)} {x : Nat} : txGet l x = none ↔ x ∉ txKeys l := by
  induction l with
  | nil => simp [txGet, txKeys]
  | cons p r ih =>
    unfold txGet
    by_cases e : p.1 = x
    · rw [if_pos e]; simp [txKeys, e]
    · rw [if_neg e, ih]
      simp only [txKeys, List.map_cons, List.mem_cons, not_or]
      exact ⟨fun h => ⟨fun h2 => e h2.symm, h⟩, fun h => h.2⟩
theorem txSet_new {l : List (Nat × Nat)} {off : Nat} (v : Nat) (h : txGet l off = none) : txSet l off v = l ++ [(off, v)] := by
  induction l with
  | nil => rfl
  | cons p r ih =>
    unfold txGet at h
    by_cases e : p.1 = off
    · rw [if_pos e] at h; cases h
    · rw [if_neg e] at h
      unfold txSet
      rw [if_neg e, ih h]
      rfl
theorem txKeys_old {l : List (Nat × Nat)} {off : Nat} (v : Nat) (h : txGet l off ≠ none) : txKeys (txSet l off v) = txKeys l := by
  induction l with
  | nil => exact absurd rfl h
  | cons p r ih =>
    unfold txSet
    by_cases e : p.1 = off
    · rw [if_pos e]; simp [txKeys, e]
    · rw [if_neg e]
      unfold txGet at h
      rw [if_neg e] at h
      have := ih h
      simp only [txKeys, List.map_cons] at this ⊢
      rw [this]
theorem txKeys_new {l : List (Nat × Nat)} {off : Nat} (v : Nat) (h : txGet l off = none) : txKeys (txSet l off v) = txKeys l ++ [off] := by
  rw [txSet_new v h]; simp [txKeys]
theorem txSet_len (l : List (Nat × Nat)) (off v : Nat) : (txSet l off v).length = if (txGet l off).isSome then l.length else l.length + 1 := by
  rcases e : txGet l off with _ | y
  · rw [txSet_new v e]; simp
  · have := congrArg List.length (txKeys_old v (l := l) (off := off) (by rw [e]; simp))
    rw [txKeys_len, txKeys_len] at this
    simpa using this
theorem txSet_mem {l : List (Nat × Nat)} {off v : Nat} {p : Nat × Nat} (h : p ∈ txSet l off v) : p = (off, v) ∨ p ∈ l := by
  induction l with
  | nil => left; simpa [txSet] using h
  | cons q r ih =>
    unfold txSet at h
    by_cases e : q.1 = off
    · rw [if_pos e] at h
      rcases List.mem_cons.1 h with h | h
      · exact .inl h
      · exact .inr (List.mem_cons_of_mem _ h)
    · rw [if_neg e] at h
      rcases List.mem_cons.1 h with h | h
      · exact .inr (by rw [h]; exact List.mem_cons_self)
      · rcases ih h with h | h
        · exact .inl h
        · exact .inr (List.mem_cons_of_mem _ h)
theorem txGet_mem {l : List (Nat × Nat)} {off v : Nat} (h : txGet l off = some v) : (off, v) ∈ l := by
  induction l with
  | nil => cases h
  | cons q r ih =>
    unfold txGet at h
    by_cases e : q.1 = off
    · rw [if_pos e] at h
      injection h with h
      obtain ⟨a, b⟩ := q
      simp only at e h
      subst e; subst h
      exact List.mem_cons_self
    · rw [if_neg e] at h
      exact List.mem_cons_of_mem _ (ih h)
theorem txGet_of_mem {l : List (Nat × Nat)} (hn : (txKeys l).Nodup) {p : Nat × Nat} (h : p ∈ l) : txGet l p.1 = some p.2 := by
  induction l with
  | nil => cases h
  | cons q r ih =>
    simp only [txKeys, List.map_cons] at hn
    obtain ⟨h1, h2⟩ := List.nodup_cons.1 hn
    unfold txGet
    rcases List.mem_cons.1 h with h | h
    · rw [← h, if_pos rfl]
    · rw [if_neg (fun e => h1 (by rw [e]; exact List.mem_map_of_mem h)), ih h2 h]
structure TxOk (ws : List Nat) (l : List (Nat × Nat)) : Prop where
  once : (txKeys l).Nodup
  stand : ∀ p ∈ l, stands ws p.1
  word : ∀ p ∈ l, p.2 < 18446744073709551616
theorem TxOk.empty (ws : List Nat) : TxOk ws [] := ⟨List.nodup_nil, (fun p h => absurd h List.not_mem_nil), (fun p h => absurd h List.not_mem_nil)⟩
theorem TxOk.set {ws : List Nat} {l : List (Nat × Nat)} (h : TxOk ws l) {off v : Nat} (ho : stands ws off) (hv : v < 18446744073709551616) : TxOk ws (txSet l off v) where
  once := by
    rcases e : txGet l off with _ | y
    · rw [txKeys_new v e, List.nodup_append]
      refine ⟨h.once, by simp, fun a ha b hb => ?_⟩
      have hb' : b = off := by simpa using hb
      intro e2
      rw [e2, hb'] at ha
      exact txGet_none.1 e ha
    · rw [txKeys_old v (by rw [e]; simp)]
      exact h.once
  stand := fun p hp => by
    rcases txSet_mem hp with rfl | hp
    · exact ho
    · exact h.stand p hp
  word := fun p hp => by
    rcases txSet_mem hp with rfl | hp
    · exact hv
    · exact h.word p hp
theorem nodup_below : ∀ (m : Nat) (l : List Nat), l.Nodup → (∀ x ∈ l, x < m) → l.length ≤ m
  | 0, l, _, h => by
    rcases l with _ | ⟨x, r⟩
    · simp
    · exact absurd (h x List.mem_cons_self) (by omega)
  | m + 1, l, hn, h => by
    have ih := nodup_below m (l.erase m) (hn.erase m) (fun x hx => by
      have h1 := h x (List.mem_of_mem_erase hx)
      have h2 : x ≠ m := fun e => by
        subst e
        exact (List.Nodup.not_mem_erase hn) hx
      omega)
    have := List.length_erase (a := m) (l := l)
    split at this <;> omega
theorem nodup_map {α β : Type} {f : α → β} {l : List α} (hf : ∀ a ∈ l, ∀ b ∈ l, f a = f b → a = b) (h : l.Nodup) : (l.map f).Nodup := by
  induction l with
  | nil => simp
  | cons a r ih =>
    obtain ⟨h1, h2⟩ := List.nodup_cons.1 h
    rw [List.map_cons, List.nodup_cons]
    refine ⟨fun hm => ?_, ih (fun x hx y hy => hf x (List.mem_cons_of_mem _ hx) y (List.mem_cons_of_mem _ hy)) h2⟩
    obtain ⟨b, hb, e⟩ := List.mem_map.1 hm
    have := hf b (List.mem_cons_of_mem _ hb) a List.mem_cons_self e
    exact h1 (this ▸ hb)
theorem TxOk.len {ws : List Nat} {l : List (Nat × Nat)} (h : TxOk ws l) : l.length ≤ ws.length := by
  have h1 : ((txKeys l).map (· / 8)).Nodup := nodup_map (fun a ha b hb e => by
    obtain ⟨p, hp, rfl⟩ := List.mem_map.1 ha
    obtain ⟨q, hq, rfl⟩ := List.mem_map.1 hb
    have := (h.stand p hp).1
    have := (h.stand q hq).1
    omega) h.once
  have := nodup_below ws.length _ h1 (fun x hx => by
    obtain ⟨y, hy, rfl⟩ := List.mem_map.1 hx
    obtain ⟨p, hp, rfl⟩ := List.mem_map.1 hy
    have := (h.stand p hp).2
    omega)
  simpa [txKeys] using this
theorem TxOk.off_lt {ws : List Nat} {l : List (Nat × Nat)} (h : TxOk ws l) (hm : ws.length ≤ 131072) : ∀ p ∈ l, p.1 < 1048576 := fun p hp => by
  have := (h.stand p hp).2
  omega
theorem TxOk.put {ws : List Nat} {l : List (Nat × Nat)} (h : TxOk ws l) (off v : Nat) : TxOk (put ws off v) l :=
  ⟨h.once, fun p hp => by have := h.stand p hp; unfold stands at this ⊢; rwa [put_len], h.word⟩
def txSee (ws : List Nat) (l : List (Nat × Nat)) (off : Nat) : Nat := (txGet l off).getD (getW ws off)
def txStore (ws : List Nat) (l : List (Nat × Nat)) (off v : Nat) : List (Nat × Nat) := if stands ws off then txSet l off v else l
theorem TxOk.store {ws : List Nat} {l : List (Nat × Nat)} (h : TxOk ws l) (off : Nat) {v : Nat} (hv : v < 18446744073709551616) : TxOk ws (txStore ws l off v) := by
  unfold txStore
  split
  · exact h.set ‹_› hv
  · exact h
theorem txSee_lt {ws : List Nat} {l : List (Nat × Nat)} (hw : ∀ x ∈ ws, x < 18446744073709551616) (h : TxOk ws l) (off : Nat) : txSee ws l off < 18446744073709551616 := by
  unfold txSee
  rcases e : txGet l off with _ | y
  · exact getW_lt hw off
  · exact h.word _ (txGet_mem e)
theorem key_lit (x : Int) : WideAt.IsKeyLit (.int .u64 x) := by simp [WideAt.IsKeyLit]
structure Says (D : DataW Unit) (l : List (Nat × Nat)) : Prop where
  size : Maps.size D = l.length
  has : ∀ x : Nat, Maps.has D (.int .u64 x) = (txGet l x).isSome
  at_ : ∀ x : Nat, D.atKey (.int .u64 x) (.lit (.int .u64 0)) = .lit (.int .u64 ((txGet l x).getD 0 : Nat))
theorem Says.empty : Says (.map []) [] := ⟨rfl, fun _ => rfl, fun _ => rfl⟩
theorem Says.put {D : DataW Unit} {l : List (Nat × Nat)} (h : Says D l) (ht : Maps.Tidy D) (off v : Nat) : Says (D.put (.int .u64 off) (.lit (.int .u64 v))) (txSet l off v) where
  size := by rw [Maps.size_put ht, txSet_len, h.size, h.has off]
  has := fun x => by
    rw [txGet_set]
    by_cases e : x = off
    · subst e
      rw [if_pos rfl, Maps.has_put_same ht.isMap (key_lit _)]; rfl
    · rw [if_neg e, Maps.has_put_other (fun h => e (by injection h with _ h; omega)), h.has x]
  at_ := fun x => by
    rw [txGet_set]
    by_cases e : x = off
    · subst e
      rw [if_pos rfl, Maps.atKey_put_same ht.isMap (key_lit _)]; rfl
    · rw [if_neg e, Maps.atKey_put_other (fun h => e (by injection h with _ h; omega)), h.at_ x]
def MapAt (w : World) (M : Nat) (l : List (Nat × Nat)) : Prop := ∃ D : DataW Unit, w.ownsMap Try.prog 31 (plainElem Try.prog 31) M l.length D ∧ Says D l
theorem keyed_u64 : Maps.Keyed Try.prog 31 := Maps.int_keyed Try.underlying31
theorem zero_u64 (w : World) : (zeroValue 31).run Try.prog w = .ok (.int .u64 0) w := by kernel_rfl
theorem wf_u64 (x : Nat) (h : x < 18446744073709551616) : (Lit.int .u64 (x : Int)).wf = true :=
  WalkArith.wf_u64 (by omega)
theorem key_u64 (x : Nat) (h : x < 18446744073709551616) : keyOf Try.prog 31 (.int .u64 x) = some (.int .u64 x) := Maps.keyOf_int_mk Try.underlying31 (wf_u64 x h)
structure Thinks (w : World) (T M : Nat) (R : Option Nat) (B D : Nat) (ws : List Nat) (l : List (Nat × Nat)) : Prop where
  seg : IsSeg w B D ws
  head : ∃ tv, w.heap[T]? = some (.cells #[.pointer (some ⟨B, 0, none⟩), .map (some M), tv] 101 (0, 0)) ∧ OwnW w 0 tv (txKeys l) ∧ tv.ownBlock = R
  map : MapAt w M l
  ok : TxOk ws l
def foot (T M : Nat) (R : Option Nat) : Nat → Prop := fun k => k = T ∨ k = M ∨ R = some k
section
variable {w w' : World} {T M : Nat} {R : Option Nat} {B D : Nat} {ws : List Nat} {l : List (Nat × Nat)}
theorem Thinks.ltT (h : Thinks w T M R B D ws l) : T < w.heap.size := by
  obtain ⟨tv, h1, _⟩ := h.head
  exact lt_of_block h1
theorem Thinks.row (h : Thinks w T M R B D ws l) {g : Nat} (hR : R = some g) : ∃ cur, w.heap[g]? = some (.cells cur 31 (0, 0)) := by
  obtain ⟨tv, _, h2, h3⟩ := h.head
  exact (row_block h2 (h3.trans hR)).2
theorem Thinks.notB (h : Thinks w T M R B D ws l) : ¬ foot T M R B := by
  obtain ⟨tv, h1, _⟩ := h.head
  obtain ⟨Da, h2, _⟩ := h.map
  obtain ⟨es, clock, h2⟩ := map_block h2
  rintro (e | e | e)
  · exact ne_type h.seg.head h1 (by decide) e
  · exact ne_map h.seg.head h2 e
  · obtain ⟨cur, h3⟩ := h.row e
    exact ne_type h.seg.head h3 (by decide) rfl
theorem Thinks.notD (h : Thinks w T M R B D ws l) : ¬ foot T M R D := by
  obtain ⟨tv, h1, _⟩ := h.head
  obtain ⟨Da, h2, _⟩ := h.map
  obtain ⟨es, clock, h2⟩ := map_block h2
  rintro (e | e | e)
  · exact ne_type h.seg.data h1 (by decide) e
  · exact ne_map h.seg.data h2 e
  · obtain ⟨cur, h3⟩ := h.row e
    exact ne_type h.seg.data h3 (by decide) rfl
theorem Thinks.neTM (h : Thinks w T M R B D ws l) : T ≠ M := by
  obtain ⟨tv, h1, _⟩ := h.head
  obtain ⟨Da, h2, _⟩ := h.map
  obtain ⟨es, clock, h2⟩ := map_block h2
  exact ne_map h1 h2
theorem Thinks.neTR (h : Thinks w T M R B D ws l) : R ≠ some T := by
  obtain ⟨tv, h1, _⟩ := h.head
  intro e
  obtain ⟨cur, h3⟩ := h.row e
  exact ne_type h1 h3 (by decide) rfl
theorem Thinks.neMR (h : Thinks w T M R B D ws l) : R ≠ some M := by
  obtain ⟨Da, h2, _⟩ := h.map
  obtain ⟨es, clock, h2⟩ := map_block h2
  intro e
  obtain ⟨cur, h3⟩ := h.row e
  exact ne_map h3 h2 rfl
theorem Thinks.turned (h : Thinks w T M R B D ws l) {p : Nat → Prop} (ht : Turned p w w') (hf : ∀ k, p k → ¬ foot T M R k ∧ k ≠ B ∧ k ≠ D) : Thinks w' T M R B D ws l where
  seg := h.seg.turned ht (fun hp => (hf _ hp).2.1 rfl) (fun hp => (hf _ hp).2.2 rfl)
  head := by
    obtain ⟨tv, h1, h2, h3⟩ := h.head
    exact ⟨tv, ht.heap h1 (fun hp => (hf _ hp).1 (.inl rfl)), row_turned h2 ht (fun g hg hp => (hf _ hp).1 (.inr (.inr (h3.symm.trans hg)))), h3⟩
  map := by
    obtain ⟨Da, h1, h2⟩ := h.map
    exact ⟨Da, map_turned h1 ht (fun hp => (hf _ hp).1 (.inr (.inl rfl))), h2⟩
  ok := h.ok
theorem Thinks.later (h : Thinks w T M R B D ws l) (hg : w.grownBy w' none) : Thinks w' T M R B D ws l := h.turned (Turned.of_none hg (fun _ => False)) (fun _ hf => hf.elim)
end
def Thought (w : World) (T M : Nat) (R : Option Nat) (B D : Nat) (ws : List Nat) (l' : List (Nat × Nat)) (w' : World) : Prop :=
  ∃ R', Thinks w' T M R' B D ws l' ∧ Turned (foot T M R) w w' ∧ (R' = R ∨ ∃ g, R' = some g ∧ w.heap.size ≤ g)
end Go.Proofs.Ytkkkgikmeiocaaa
namespace Go.Proofs.Ytkkkgikmeiocaaa
open Go.RowKit
theorem txnew_yes {w : World} {B D : Nat} {ws : List Nat} (h : IsSeg w B D ws) :
    Calls Try.prog 40 #[.pointer (some ⟨B, 0, none⟩)] w fun e w' => e = .returned (.pointer (some ⟨w.heap.size + 1, 0, none⟩)) ∧ w.grownBy w' none ∧ Thinks w' (w.heap.size + 1) w.heap.size none B D ws [] := by
  have hmm := @run_makeMap Try.prog
  go_enter Try.func40, Try.ntmps40
  go_wp2
  go_ret
  have hg : w.grownBy ((w.alloc (.map #[] 0)).alloc (.cells #[.pointer (some ⟨B, 0, none⟩), .map (some w.heap.size), .slice none 0 0] 101)) none := grown_trans (World.grownBy_alloc _ _ _) (World.grownBy_alloc _ _ _)
  refine ⟨rfl, hg, h.later hg, ⟨.slice none 0 0, ?_, World.ownsRow_nil _ _ _ _, rfl⟩, ⟨.map [], World.ownsMap.alloc (World.ownsMap_made _ _ _ _) _, Says.empty⟩, TxOk.empty _⟩
  have := heap_alloc_new' (w.alloc (.map #[] 0)) (.cells #[.pointer (some ⟨B, 0, none⟩), .map (some w.heap.size), .slice none 0 0] 101)
  rw [World.size_alloc] at this
  exact this
section
variable {w : World} {T M : Nat} {R : Option Nat} {B D : Nat} {ws : List Nat} {l : List (Nat × Nat)}
theorem Thinks.cells (h : Thinks w T M R B D ws l) : ∃ tv, w.cell? ⟨T, 0, none⟩ = some (.pointer (some ⟨B, 0, none⟩)) ∧ w.cell? ⟨T, 1, none⟩ = some (.map (some M)) ∧ w.cell? ⟨T, 2, none⟩ = some tv ∧ w.frozen? ⟨T, 2, none⟩ = false ∧ OwnW w 0 tv (txKeys l) ∧ tv.ownBlock = R := by
  obtain ⟨tv, h1, h2, h3⟩ := h.head
  exact ⟨tv, by simp [World.cell?, h1], by simp [World.cell?, h1], by simp [World.cell?, h1], by simp [World.frozen?, h1], h2, h3⟩
theorem txold_any (h : Thinks w T M R B D ws l) (off : Nat) (ho : off < 18446744073709551616) :
    Calls Try.prog 72 #[.pointer (some ⟨T, 0, none⟩), .int .u64 off] w fun e w' => e = .returned (.int .u64 (getW ws off : Nat)) ∧ w.grownBy w' none := by
  obtain ⟨tv, c0, _⟩ := h.cells
  have hl := load_any (.inr ⟨B, D, rfl, h.seg⟩) off ho
  go_enter Try.func72, Try.ntmps72
  go_wp2_with (go_at_call 64; refine hl.mono ?_; rintro e w1 ⟨rfl, hg1⟩)
  go_ret
  exact ⟨rfl, hg1⟩
theorem errW_eq (ws : List Nat) (off : Nat) : (((errW ws off : Nat) : Int) == 0) = decide (stands ws off) := by
  unfold errW
  by_cases h : stands ws off
  · rw [if_pos h, decide_eq_true h]; rfl
  · rw [if_neg h, decide_eq_false h]; rfl
theorem txhas_any (h : Thinks w T M R B D ws l) (off : Nat) (ho : off < 18446744073709551616) :
    Calls Try.prog 50 #[.pointer (some ⟨T, 0, none⟩), .int .u64 off] w fun e w' => e = .returned (.bool (decide (stands ws off))) ∧ w.grownBy w' none := by
  obtain ⟨tv, c0, _⟩ := h.cells
  have hl := load_any (.inr ⟨B, D, rfl, h.seg⟩) off ho
  have he := errW_eq ws off
  have HE := Lib.hid he
  clear he
  go_enter Try.func50, Try.ntmps50
  go_wp2_with (go_at_call 64; refine hl.mono ?_; rintro e w1 ⟨rfl, hg1⟩)
  go_ret
  exact ⟨by rw [← HE.out]; rfl, hg1⟩
theorem seen_int {off : Nat} {c : Int} {Da : DataW Unit} (hs : Says Da l) (hat : Da.atKey (.int .u64 off) (.lit (.int .u64 0)) = .lit (.int .u64 c)) : c = ((txGet l off).getD 0 : Nat) := by
  rw [hs.at_ off] at hat
  injection hat with hat
  injection hat with _ hat
  exact hat.symm
theorem txload_any (h : Thinks w T M R B D ws l) (off : Nat) (ho : off < 18446744073709551616) :
    Calls Try.prog 63 #[.pointer (some ⟨T, 0, none⟩), .int .u64 off] w fun e w' => e = .returned (.int .u64 (txSee ws l off : Nat)) ∧ w.grownBy w' none := by
  obtain ⟨tv, c0, c1, _⟩ := h.cells
  obtain ⟨Da, hown, hs⟩ := h.map
  have hhas := hs.has off
  have hold := txold_any h off ho
  rcases e : txGet l off with _ | y
  · rw [e] at hhas
    have hsee : txSee ws l off = getW ws off := by unfold txSee; rw [e]; rfl
    rw [hsee]
    have HH := Lib.hid hhas
    clear hhas e hsee h
    go_enter Try.func63, Try.ntmps63
    go_wp2_with (first | (at_lookup; refine wpList_lookup_own_ok_int _ rfl _ _ 99 rfl 31 31 .u64 keyed_u64 Try.underlying99 Try.underlying31 (zero_u64 _) M _ Da rfl hown _ _ rfl (key_u64 off ho) ?_; intro c hat hwc; rw [HH.out]) | (go_at_call 72; refine hold.mono ?_; rintro e w1 ⟨rfl, hg1⟩))
    go_ret
    exact ⟨rfl, hg1⟩
  · rw [e] at hhas
    have hsee : txSee ws l off = y := by unfold txSee; rw [e]; rfl
    have hy := fun c h => seen_int (off := off) (c := c) hs h
    rw [e] at hy
    rw [hsee]
    have HH := Lib.hid hhas
    have HY := Lib.hid hy
    clear hhas e hsee h hy
    go_enter Try.func63, Try.ntmps63
    go_wp2_with (first | (at_lookup; refine wpList_lookup_own_ok_int _ rfl _ _ 99 rfl 31 31 .u64 keyed_u64 Try.underlying99 Try.underlying31 (zero_u64 _) M _ Da rfl hown _ _ rfl (key_u64 off ho) ?_; intro c hat hwc; rw [HH.out]; obtain rfl := HY.out c hat))
    go_ret
    exact ⟨rfl, grown_refl _ _⟩
end
theorem txload_nil (off : Nat) (w : World) : Calls Try.prog 63 #[.pointer none, .int .u64 off] w fun e w' => e = .returned (.int .u64 0) ∧ w = w' := by
  go_enter Try.func63, Try.ntmps63
  go_wp2
  go_ret
  exact ⟨rfl, rfl⟩
end Go.Proofs.Ytkkkgikmeiocaaa
namespace Go.Proofs.Ytkkkgikmeiocaaa
open Go.RowKit
theorem wpList_append_u64_at {w2 : World} {ops : Array Oper} {rest : List Oper} {o : Oper} {a : Act} {Q : Exit → Act → World → Prop} (hgd : o.guard = none) (s x : Operand)
    (ho : o.op = .call { callee := .builtin .append, args := #[s, x], argTypes := #[26, 26] })
    (base : Nat) (v : Value) (n : Nat) (xs : List Value) (hs : a.eval s = v) (hown : w2.ownsRow base 31 1 v n xs) (y : Int)
    (hx : a.eval x = .slice (some ⟨w2.heap.size, 0, none⟩) 1 1) (hn : n ≤ 1000000000) (hbase : base ≤ w2.heap.size)
    (h : ∀ v' w', w'.ownsRow base 31 1 v' (n + 1) (xs ++ [.int .u64 y]) → (w2.alloc (.cells #[.int .u64 y] 31)).grownBy w' v.ownBlock → (v'.ownBlock = v.ownBlock ∨ v'.ownBlock = some (w2.heap.size + 1)) → wpList Try.prog ops Q rest (a.put o.dst v') w') :
    wpList Try.prog ops Q (o :: rest) a (w2.alloc (.cells #[.int .u64 y] 31)) := by
  obtain ⟨i0, hi, hz0, hz1, hz2⟩ := info_parts info_u64
  refine wpList_append_own_at _ hgd s x 26 ho base 31 i0 (.int .u64 0) 1 8 Try.underlying26 hi hz0 hz1 hz2 rfl (by decide) v n xs hs (hown.alloc _) ⟨w2.heap.size, 0, none⟩ 1 1 [.int .u64 y] hx rfl ?_ ?_ ?_ ?_ ?_ fun v' w' h1 h2 _ h4 => h v' w' h1 h2 (by rw [World.size_alloc] at h4; exact h4)
  · intro j u hj
    rcases j with _ | j
    · simp at hj
      subst hj
      exact World.cell?_alloc_at _ _ _ _ rfl
    · simp at hj
  · intro u hu
    simp at hu
    subst hu
    rfl
  · unfold maxLen; omega
  · omega
  · rw [World.size_alloc]; omega
section
variable {w w1 w3 w5 : World} {T M : Nat} {R : Option Nat} {B D : Nat} {ws : List Nat} {l l' : List (Nat × Nat)}
theorem Thought.same (h : Thinks w T M R B D ws l) (hg : w.grownBy w1 none) : Thought w T M R B D ws l w1 := ⟨R, h.later hg, Turned.of_none hg _, .inl rfl⟩
theorem Thought.first (hg : w.grownBy w1 none) (h : Thought w1 T M R B D ws l w3) : Thought w T M R B D ws l w3 := by
  obtain ⟨R', h1, h2, h3⟩ := h
  refine ⟨R', h1, Turned.first hg h2, ?_⟩
  rcases h3 with h3 | ⟨g, h3, h4⟩
  · exact .inl h3
  · exact .inr ⟨g, h3, Nat.le_trans hg.size h4⟩
theorem Thought.later (h : Thought w T M R B D ws l w1) (hg : w1.grownBy w3 none) : Thought w T M R B D ws l w3 := by
  obtain ⟨R', h1, h2, h3⟩ := h
  exact ⟨R', h1.later hg, h2.later hg, h3⟩
theorem foot_new {R' : Option Nat} {n : Nat} (h : R' = R ∨ ∃ g, R' = some g ∧ n ≤ g) {k : Nat} (hk : foot T M R' k) : foot T M R k ∨ n ≤ k := by
  rcases hk with hk | hk | hk
  · exact .inl (.inl hk)
  · exact .inl (.inr (.inl hk))
  · rcases h with rfl | ⟨g, rfl, hg⟩
    · exact .inl (.inr (.inr hk))
    · injection hk with hk
      subst hk
      exact .inr hg
theorem Thought.trans {R' : Option Nat} (ht : Turned (foot T M R) w w1) (hr : R' = R ∨ ∃ g, R' = some g ∧ w.heap.size ≤ g) (h : Thought w1 T M R' B D ws l w3) : Thought w T M R B D ws l w3 := by
  obtain ⟨R2, h1, h2, h3⟩ := h
  refine ⟨R2, h1, ht.trans h2 fun i hi => foot_new hr hi, ?_⟩
  rcases h3 with rfl | ⟨g, rfl, hg⟩
  · exact hr
  · exact .inr ⟨g, rfl, Nat.le_trans ht.size hg⟩
theorem Thought.again (h : Thinks w T M R B D ws l) {Da : DataW Unit} (hown : w.ownsMap Try.prog 31 (plainElem Try.prog 31) M l.length Da) (hs : Says Da l) {off v y : Nat} (ho : stands ws off) (hv : v < 18446744073709551616) (hy : txGet l off = some y)
    (hown5 : w5.ownsMap Try.prog 31 (plainElem Try.prog 31) M (l.length + 1) (Da.put (.int .u64 off) (.lit (.int .u64 v)))) (hg : w.grownBy w5 (some M)) : Thought w T M R B D ws (txSet l off v) w5 := by
  have hsay := hs.put (hown.tidy keyed_u64) off v
  have ht : Turned (fun k => some M = some k) w w5 := Turned.of_grown hg
  obtain ⟨tv, h1, h2, h3⟩ := h.head
  have e1 : T ≠ M := h.neTM
  refine ⟨R, ⟨?_, ⟨tv, ht.heap h1 (by simpa using e1.symm), ?_, h3⟩, ⟨_, ?_, hsay⟩, h.ok.set ho hv⟩, ht.mono (fun k _ hk => .inr (.inl (by simpa using hk.symm))), .inl rfl⟩
  · exact h.seg.turned ht (fun e => h.notB (.inr (.inl (by injection e with e; exact e.symm)))) (fun e => h.notD (.inr (.inl (by injection e with e; exact e.symm))))
  · rw [txKeys_old v (by rw [hy]; simp)]
    exact row_turned h2 ht (fun g hg e => h.neMR (by rw [← h3, hg]; exact e.symm))
  · have := map_tight hown5
    rwa [hsay.size] at this
theorem turn_stored (h : Thinks w T M R B D ws l) {tv v' : Value} (h1 : w.heap[T]? = some (.cells #[.pointer (some ⟨B, 0, none⟩), .map (some M), tv] 101 (0, 0))) (h3 : tv.ownBlock = R) (y : Int)
    (hown3 : w3.ownsRow 0 31 1 v' (l.length + 1) (cellsU (txKeys l) ++ [.int .u64 y])) (hg : (w.alloc (.cells #[.int .u64 y] 31)).grownBy w3 tv.ownBlock) :
    w3.heap[T]? = some (.cells #[.pointer (some ⟨B, 0, none⟩), .map (some M), tv] 101 (0, 0)) ∧
    (∀ {Da : DataW Unit}, w.ownsMap Try.prog 31 (plainElem Try.prog 31) M l.length Da → (w3.setCell ⟨T, 2, none⟩ v').ownsMap Try.prog 31 (plainElem Try.prog 31) M l.length Da) ∧
    ∃ g cap, v' = .slice (some ⟨g, 0, none⟩) (l.length + 1) cap := by
  rw [h3] at hg
  have ha : w.grownBy (w.alloc (.cells #[.int .u64 y] 31)) none := World.grownBy_alloc _ _ _
  have hh := h.later ha
  refine ⟨(hg.block T (by have := h.ltT; rw [World.size_alloc]; omega) (fun e => h.neTR e.symm)).trans ((ha.block T h.ltT (by simp)).trans h1), fun hown => ?_, ?_⟩
  · refine World.ownsMap.setCell ((hown.kept ha (by simp)).kept hg ?_) (fun e => h.neTM e.symm) _
    intro e
    exact h.neMR e.symm
  · obtain ⟨g, cap, e⟩ := ownsRow_succ hown3
    exact ⟨g, cap, e⟩
theorem Thought.more (h : Thinks w T M R B D ws l) {tv v' : Value} (h1 : w.heap[T]? = some (.cells #[.pointer (some ⟨B, 0, none⟩), .map (some M), tv] 101 (0, 0))) (h3 : tv.ownBlock = R)
    {Da : DataW Unit} (hown : w.ownsMap Try.prog 31 (plainElem Try.prog 31) M l.length Da) (hs : Says Da l) {off v : Nat} (ho : stands ws off) (hv : v < 18446744073709551616) (hy : txGet l off = none)
    (hown3 : w3.ownsRow 0 31 1 v' (l.length + 1) (cellsU (txKeys l) ++ [.int .u64 (off : Nat)])) (hg : (w.alloc (.cells #[.int .u64 (off : Nat)] 31)).grownBy w3 tv.ownBlock)
    (hloc : v'.ownBlock = tv.ownBlock ∨ v'.ownBlock = some (w.heap.size + 1))
    (hown5 : w5.ownsMap Try.prog 31 (plainElem Try.prog 31) M (l.length + 1) (Da.put (.int .u64 off) (.lit (.int .u64 v)))) (hg5 : (w3.setCell ⟨T, 2, none⟩ v').grownBy w5 (some M)) : Thought w T M R B D ws (txSet l off v) w5 := by
  obtain ⟨t1, t2, _⟩ := turn_stored h h1 h3 _ hown3 hg
  have hsay := hs.put (hown.tidy keyed_u64) off v
  rw [h3] at hg hloc
  have ha : w.grownBy (w.alloc (.cells #[.int .u64 (off : Nat)] 31)) none := World.grownBy_alloc _ _ _
  have s3 : Turned (foot T M R) w w3 := (Turned.of_none ha (foot T M R)).trans (Turned.of_grown hg) (fun i hi => .inl (.inr (.inr hi)))
  have s4 : Turned (foot T M R) w (w3.setCell ⟨T, 2, none⟩ v') := s3.trans (Turned.of_grown (grown_set _ _ _ _)) (fun i hi => .inl (.inl (by injection hi with hi; exact hi.symm)))
  have s5 : Turned (foot T M R) w w5 := s4.trans (Turned.of_grown hg5) (fun i hi => .inl (.inr (.inl (by injection hi with hi; exact hi.symm))))
  have q5 : Turned (fun k => some M = some k) (w3.setCell ⟨T, 2, none⟩ v') w5 := Turned.of_grown hg5
  have hrow4 : (w3.setCell ⟨T, 2, none⟩ v').ownsRow 0 31 1 v' (l.length + 1) (cellsU (txKeys l) ++ [.int .u64 (off : Nat)]) :=
    row_turned hown3 (Turned.of_grown (grown_set w3 T 2 v')) (fun g hg' e => by
      injection e with e
      subst e
      obtain ⟨_, cur, h4⟩ := row_block hown3 hg'
      exact ne_type t1 h4 (by decide) rfl)
  have hT4 : (w3.setCell ⟨T, 2, none⟩ v').heap[T]? = some (.cells #[.pointer (some ⟨B, 0, none⟩), .map (some M), v'] 101 (0, 0)) := by
    rw [heap_setCell_same t1]; rfl
  have hT5 := q5.heap hT4 (by simpa using h.neTM.symm)
  obtain ⟨es, clock, hM4⟩ := map_block (t2 hown)
  have hrow5 : w5.ownsRow 0 31 1 v' (l.length + 1) (cellsU (txKeys l) ++ [.int .u64 (off : Nat)]) :=
    row_turned hrow4 q5 (fun g hg' e => by
      injection e with e
      subst e
      obtain ⟨_, cur, h4⟩ := row_block hrow4 hg'
      exact ne_map h4 hM4 rfl)
  refine ⟨v'.ownBlock, ⟨h.seg.turned s5 h.notB h.notD, ⟨v', hT5, ?_, rfl⟩, ⟨_, ?_, hsay⟩, h.ok.set ho hv⟩, s5, ?_⟩
  · unfold OwnW
    rw [txKeys_new v hy]
    have e2 : (txKeys l ++ [off]).length = l.length + 1 := by simp [txKeys]
    rw [e2]
    simpa [cellsU] using hrow5
  · have := map_tight hown5
    rwa [hsay.size] at this
  · rcases hloc with e | e
    · exact .inl e
    · exact .inr ⟨_, e, Nat.le_succ _⟩
set_option maxHeartbeats 1000000 in
theorem txstore_any (h : Thinks w T M R B D ws l) (off v : Nat) (ho : off < 18446744073709551616) (hv : v < 18446744073709551616) :
    Calls Try.prog 36 #[.pointer (some ⟨T, 0, none⟩), .int .u64 off, .int .u64 v] w fun e w' => e = .returned (.tuple #[]) ∧ Thought w T M R B D ws (txStore ws l off v) w' := by
  have hhas := txhas_any h off ho
  by_cases hs : stands ws off
  · rw [decide_eq_true hs] at hhas
    have e0 : txStore ws l off v = txSet l off v := by unfold txStore; rw [if_pos hs]
    rw [e0]
    have hlen := Nat.le_trans h.ok.len h.seg.most
    rcases e : txGet l off with _ | y
    · have HS := Lib.hid hs
      have HE := Lib.hid e
      clear hs e e0
      go_enter Try.func36, Try.ntmps36
      go_wp2_with (first | (go_at_call 50; refine hhas.mono ?_; rintro e w1 ⟨rfl, hg1⟩; have hT := h.later hg1; obtain ⟨tv, h1, h2, h3⟩ := hT.head; have c0 : w1.cell? ⟨T, 1, none⟩ = some (.map (some M)) := (by simp [World.cell?, h1]); have c2 : w1.cell? ⟨T, 2, none⟩ = some tv := (by simp [World.cell?, h1]); obtain ⟨Da, hown, hsay⟩ := hT.map; have HH := Lib.hid (hsay.has off); have H1 := Lib.hid h1; clear h1; have H3 := Lib.hid h3; clear h3) | (at_lookup; refine wpList_lookup_own_ok_int _ rfl _ _ 99 rfl 31 31 .u64 keyed_u64 Try.underlying99 Try.underlying31 (zero_u64 _) M _ Da rfl hown _ _ rfl (key_u64 off ho) ?_; intro c hat hwc; rw [HH.out, HE.out]) | (at_builtin; go_must (refine wpList_append_u64_at rfl _ _ rfl 0 tv l.length (cellsU (txKeys l)) rfl (by rw [← txKeys_len]; exact h2) _ rfl (by omega) (Nat.zero_le _) ?_); intro v' w3 hown3 hg4 hloc; obtain ⟨t1, t2, g', cap', hv'⟩ := turn_stored hT H1.out H3.out _ hown3 hg4; subst hv'; have c3 : w3.cell? ⟨T, 2, none⟩ = some tv := (by simp [World.cell?, t1]); have c4 : w3.cell? ⟨T, 1, none⟩ = some (.map (some M)) := (by simp [World.cell?, t1]); have f3 : w3.frozen? ⟨T, 2, none⟩ = false := (by simp [World.frozen?, t1]); have hown4 := t2 hown; have HL := Lib.hid hloc; clear t1 t2 hloc) | (at_mapUpdate; go_must (refine wpList_mapUpdate_own _ rfl _ _ _ 99 rfl 31 31 keyed_u64 Try.underlying99 _ M l.length _ rfl hown4 (by unfold maxLen; omega) _ _ _ rfl rfl (key_u64 off ho) _ [] (plainElem_int Try.underlying31 (wf_u64 v hv)) ?_); intro w5 hown5 hg5))
      go_end0
      exact ⟨rfl, Thought.first hg1 (Thought.more hT H1.out H3.out hown hsay HS.out hv HE.out hown3 hg4 HL.out hown5 hg5)⟩
    · have HS := Lib.hid hs
      have HE := Lib.hid e
      clear hs e e0
      go_enter Try.func36, Try.ntmps36
      go_wp2_with (first | (go_at_call 50; refine hhas.mono ?_; rintro e w1 ⟨rfl, hg1⟩; have hT := h.later hg1; obtain ⟨tv, h1, h2, h3⟩ := hT.head; have c0 : w1.cell? ⟨T, 1, none⟩ = some (.map (some M)) := (by simp [World.cell?, h1]); obtain ⟨Da, hown, hsay⟩ := hT.map; have HH := Lib.hid (hsay.has off); clear h1 h3) | (at_lookup; refine wpList_lookup_own_ok_int _ rfl _ _ 99 rfl 31 31 .u64 keyed_u64 Try.underlying99 Try.underlying31 (zero_u64 _) M _ Da rfl hown _ _ rfl (key_u64 off ho) ?_; intro c hat hwc; rw [HH.out, HE.out]) | (at_mapUpdate; go_must (refine wpList_mapUpdate_own _ rfl _ _ _ 99 rfl 31 31 keyed_u64 Try.underlying99 _ M l.length _ rfl hown (by unfold maxLen; omega) _ _ _ rfl rfl (key_u64 off ho) _ [] (plainElem_int Try.underlying31 (wf_u64 v hv)) ?_); intro w5 hown5 hg5))
      go_end0
      exact ⟨rfl, Thought.first hg1 (Thought.again hT hown hsay HS.out hv HE.out hown5 hg5)⟩
  · rw [decide_eq_false hs] at hhas
    have e0 : txStore ws l off v = l := by unfold txStore; rw [if_neg hs]
    rw [e0]
    clear hs e0
    go_enter Try.func36, Try.ntmps36
    go_wp2_with (go_at_call 50; refine hhas.mono ?_; rintro e w1 ⟨rfl, hg1⟩)
    refine bodyPost_ret (results_none rfl _ _ _) rfl ?_
    exact ⟨rfl, Thought.same h hg1⟩
end
end Go.Proofs.Ytkkkgikmeiocaaa
namespace Go.Proofs.Ytkkkgikmeiocaaa
open Go.RowKit Go.Shelf
attribute [local go_sem] Oper.semAt_some
def txX (l : List (Nat × Nat)) (k : Nat) : Nat := (l.getD k (0, 0)).1
def txV (l : List (Nat × Nat)) (k : Nat) : Nat := (l.getD k (0, 0)).2
theorem getD_mem {α : Type} {l : List α} {k : Nat} (d : α) (h : k < l.length) : l.getD k d ∈ l := by
  rw [List.getD_eq_getElem?_getD, List.getElem?_eq_getElem h]
  exact List.getElem_mem h
theorem TxOk.getD {ws : List Nat} {l : List (Nat × Nat)} (h : TxOk ws l) {k : Nat} (hk : k < l.length) : txGet l (txX l k) = some (txV l k) :=
  txGet_of_mem h.once (getD_mem (0, 0) hk)
theorem TxOk.lt {ws : List Nat} {l : List (Nat × Nat)} (h : TxOk ws l) (hm : ws.length ≤ 131072) (k : Nat) : txX l k < 18446744073709551616 ∧ txV l k < 18446744073709551616 := by
  unfold txX txV
  rcases Nat.lt_or_ge k l.length with hk | hk
  · have := getD_mem (0, 0) hk
    exact ⟨by have := h.off_lt hm _ this; omega, h.word _ this⟩
  · rw [List.getD_eq_getElem?_getD, List.getElem?_eq_none hk]
    exact ⟨by decide, by decide⟩
end Go.Proofs.Ytkkkgikmeiocaaa
namespace Go.Proofs.Ytkkkgikmeiocaaa
open Go.RowKit Go.Shelf
attribute [local go_sem] Oper.semAt_some
theorem info_put : (Try.prog.info? 89).map (fun i => (i.zero, i.size, i.bytes)) = some (some (.agg #[.int .u64 0, .int .u64 0]), 2, 16) := by kernel_rfl
theorem cells_two_new (W : World) (t : TypeId) (x y : Value) : ∀ j u, [x, y][j]? = some u → (W.alloc (.cells #[x, y] t)).cell? ((⟨W.heap.size, 0, none⟩ : Addr).add j) = some u := by
  intro j u hj
  have hb : (W.alloc (.cells #[x, y] t)).heap[W.heap.size]? = some (.cells #[x, y] t (0, 0)) := heap_alloc_new' _ _
  have hadd : ∀ j, (⟨W.heap.size, 0, none⟩ : Addr).add j = ⟨W.heap.size, j, none⟩ := fun j => by unfold Addr.add; split <;> simp_all
  rw [hadd]
  unfold World.cell?
  simp only [hb]
  rcases j with _ | _ | j
  · simp at hj; subst hj; rfl
  · simp at hj; subst hj; rfl
  · simp at hj
def cellsP (l : List (Nat × Nat)) : List Value := l.flatMap fun p => [.int .u64 (p.1 : Nat), .int .u64 (p.2 : Nat)]
def OwnP (w : World) (base : Nat) (v : Value) (l : List (Nat × Nat)) : Prop := w.ownsRow base 89 2 v l.length (cellsP l)
section
variable {w : World} {T M : Nat} {R : Option Nat} {B D : Nat} {ws : List Nat} {l : List (Nat × Nat)}
end
end Go.Proofs.Ytkkkgikmeiocaaa
