/-
  The texts of this claim that speak of one layer, one behind the other: each says ahead of it what it holds, and under which conditions.
-/
import Derived.Test.YtoamlkljfmgomaaGreatLSeg
import Derived.RangeFuncBox
import Derived.RangeFuncNested
import Derived.RangeFuncBound
import Derived.RangeFuncCalls
import Derived.RangeFuncLeaves
import Derived.Shelf.Abstract
import Derived.Shelf.RegionOpen
import Derived.OwnWalkIn
import Derived.TacticsInMore
import Derived.LoopNIn
import Derived.LoopIn
import Derived.Maps.OwnIn
import Derived.Laws.StructEq
import Derived.Deep.AppendLies
import Derived.Laws.AppendOwnNone
import Derived.StillTailTactics
import Derived.OrdersIn
import Derived.Deep.RegionHeld3
import Derived.Deep.QuietTactic
import Derived.BigQuiet
import Derived.Test.YtoamlkljfmgomaaGreatRows
import Derived.ProofKit
import Derived.Lib.SmallJoins
import Derived.Deep.SlicePairs
import Derived.OpenShut
import Derived.Carry
import Derived.ChangeOld
import Derived.SizedLaws
/-
  Words that are thought of: the plain mathematics of layer 3, and what stands in memory for a Tx over a segment.
  No condition.
-/
namespace Go.Proofs.YtoamlkljfmgomaaGreat
open Go.RowKit
set_option linter.unusedVariables false
set_option linter.unusedSimpArgs false

/-! ### Pairs of offset and word, in the turn in which they came first -/
/-- what is thought of at an offset -/
def txGet : List (Nat × Nat) → Nat → Option Nat
  | [], _ => none
  | p :: r, off => if p.1 = off then some p.2 else txGet r off
/-- with a word thought of -/
def txSet : List (Nat × Nat) → Nat → Nat → List (Nat × Nat)
  | [], off, v => [(off, v)]
  | p :: r, off, v => if p.1 = off then (off, v) :: r else p :: txSet r off v
/-- the offsets -/
def txKeys (l : List (Nat × Nat)) : List Nat := l.map Prod.fst
theorem txKeys_len (l : List (Nat × Nat)) : (txKeys l).length = l.length := by simp [txKeys]
theorem txGet_set (l : List (Nat × Nat)) (off v x : Nat) : txGet (txSet l off v) x = if x = off then some v else txGet l x := by
  induction l with
  | nil =>
    unfold txSet txGet
    by_cases e : off = x
    · rw [if_pos e, if_pos e.symm]
    · rw [if_neg e, if_neg (fun h => e h.symm)]; rfl
  | cons p r ih =>
    unfold txSet
    by_cases e : p.1 = off
    · rw [if_pos e]
      unfold txGet
      by_cases e2 : x = off
      · subst e2; simp
      · rw [if_neg (fun h => e2 h.symm), if_neg e2]
        by_cases e3 : p.1 = x
        · omega
        · rw [if_neg e3]
    · rw [if_neg e]
      unfold txGet
      by_cases e3 : p.1 = x
      · rw [if_pos e3, if_pos e3, if_neg (by omega)]
      · rw [if_neg e3, if_neg e3, ih]
theorem txGet_none {l : List (Nat × Nat)} {x : Nat} : txGet l x = none ↔ x ∉ txKeys l := by
  induction l with
  | nil => simp [txGet, txKeys]
  | cons p r ih =>
    unfold txGet
    by_cases e : p.1 = x
    · rw [if_pos e]; simp [txKeys, e]
    · rw [if_neg e, ih]
      simp only [txKeys, List.map_cons, List.mem_cons, not_or]
      exact ⟨fun h => ⟨fun h2 => e h2.symm, h⟩, fun h => h.2⟩
theorem txSet_new {l : List (Nat × Nat)} {off : Nat} (v : Nat) (h : txGet l off = none) : txSet l off v = l ++ [(off, v)] := by
  induction l with
  | nil => rfl
  | cons p r ih =>
    unfold txGet at h
    by_cases e : p.1 = off
    · rw [if_pos e] at h; cases h
    · rw [if_neg e] at h
      unfold txSet
      rw [if_neg e, ih h]
      rfl
theorem txKeys_old {l : List (Nat × Nat)} {off : Nat} (v : Nat) (h : txGet l off ≠ none) : txKeys (txSet l off v) = txKeys l := by
  induction l with
  | nil => exact absurd rfl h
  | cons p r ih =>
    unfold txSet
    by_cases e : p.1 = off
    · rw [if_pos e]; simp [txKeys, e]
    · rw [if_neg e]
      unfold txGet at h
      rw [if_neg e] at h
      have := ih h
      simp only [txKeys, List.map_cons] at this ⊢
      rw [this]
theorem txKeys_new {l : List (Nat × Nat)} {off : Nat} (v : Nat) (h : txGet l off = none) : txKeys (txSet l off v) = txKeys l ++ [off] := by
  rw [txSet_new v h]; simp [txKeys]
theorem txSet_len (l : List (Nat × Nat)) (off v : Nat) : (txSet l off v).length = if (txGet l off).isSome then l.length else l.length + 1 := by
  rcases e : txGet l off with _ | y
  · rw [txSet_new v e]; simp
  · have := congrArg List.length (txKeys_old v (l := l) (off := off) (by rw [e]; simp))
    rw [txKeys_len, txKeys_len] at this
    simpa using this
theorem txSet_mem {l : List (Nat × Nat)} {off v : Nat} {p : Nat × Nat} (h : p ∈ txSet l off v) : p = (off, v) ∨ p ∈ l := by
  induction l with
  | nil => left; simpa [txSet] using h
  | cons q r ih =>
    unfold txSet at h
    by_cases e : q.1 = off
    · rw [if_pos e] at h
      rcases List.mem_cons.1 h with h | h
      · exact .inl h
      · exact .inr (List.mem_cons_of_mem _ h)
    · rw [if_neg e] at h
      rcases List.mem_cons.1 h with h | h
      · exact .inr (by rw [h]; exact List.mem_cons_self)
      · rcases ih h with h | h
        · exact .inl h
        · exact .inr (List.mem_cons_of_mem _ h)
theorem txGet_mem {l : List (Nat × Nat)} {off v : Nat} (h : txGet l off = some v) : (off, v) ∈ l := by
  induction l with
  | nil => cases h
  | cons q r ih =>
    unfold txGet at h
    by_cases e : q.1 = off
    · rw [if_pos e] at h
      injection h with h
      obtain ⟨a, b⟩ := q
      simp only at e h
      subst e; subst h
      exact List.mem_cons_self
    · rw [if_neg e] at h
      exact List.mem_cons_of_mem _ (ih h)
theorem txGet_of_mem {l : List (Nat × Nat)} (hn : (txKeys l).Nodup) {p : Nat × Nat} (h : p ∈ l) : txGet l p.1 = some p.2 := by
  induction l with
  | nil => cases h
  | cons q r ih =>
    simp only [txKeys, List.map_cons] at hn
    obtain ⟨h1, h2⟩ := List.nodup_cons.1 hn
    unfold txGet
    rcases List.mem_cons.1 h with h | h
    · rw [← h, if_pos rfl]
    · rw [if_neg (fun e => h1 (by rw [e]; exact List.mem_map_of_mem h)), ih h2 h]

/-- What may be thought of over words: each offset once, each one of a word there, and numbers of 64 bits. -/
structure TxOk (ws : List Nat) (l : List (Nat × Nat)) : Prop where
  once : (txKeys l).Nodup
  stand : ∀ p ∈ l, stands ws p.1
  word : ∀ p ∈ l, p.2 < 18446744073709551616
theorem TxOk.empty (ws : List Nat) : TxOk ws [] := ⟨List.nodup_nil, (fun p h => absurd h List.not_mem_nil), (fun p h => absurd h List.not_mem_nil)⟩
theorem TxOk.set {ws : List Nat} {l : List (Nat × Nat)} (h : TxOk ws l) {off v : Nat} (ho : stands ws off) (hv : v < 18446744073709551616) : TxOk ws (txSet l off v) where
  once := by
    rcases e : txGet l off with _ | y
    · rw [txKeys_new v e, List.nodup_append]
      refine ⟨h.once, by simp, fun a ha b hb => ?_⟩
      have hb' : b = off := by simpa using hb
      intro e2
      rw [e2, hb'] at ha
      exact txGet_none.1 e ha
    · rw [txKeys_old v (by rw [e]; simp)]
      exact h.once
  stand := fun p hp => by
    rcases txSet_mem hp with rfl | hp
    · exact ho
    · exact h.stand p hp
  word := fun p hp => by
    rcases txSet_mem hp with rfl | hp
    · exact hv
    · exact h.word p hp
/-- no more numbers below m than m, each once -/
theorem nodup_below : ∀ (m : Nat) (l : List Nat), l.Nodup → (∀ x ∈ l, x < m) → l.length ≤ m
  | 0, l, _, h => by
    rcases l with _ | ⟨x, r⟩
    · simp
    · exact absurd (h x List.mem_cons_self) (by omega)
  | m + 1, l, hn, h => by
    have ih := nodup_below m (l.erase m) (hn.erase m) (fun x hx => by
      have h1 := h x (List.mem_of_mem_erase hx)
      have h2 : x ≠ m := fun e => by
        subst e
        exact (List.Nodup.not_mem_erase hn) hx
      omega)
    have := List.length_erase (a := m) (l := l)
    split at this <;> omega
theorem nodup_map {α β : Type} {f : α → β} {l : List α} (hf : ∀ a ∈ l, ∀ b ∈ l, f a = f b → a = b) (h : l.Nodup) : (l.map f).Nodup := by
  induction l with
  | nil => simp
  | cons a r ih =>
    obtain ⟨h1, h2⟩ := List.nodup_cons.1 h
    rw [List.map_cons, List.nodup_cons]
    refine ⟨fun hm => ?_, ih (fun x hx y hy => hf x (List.mem_cons_of_mem _ hx) y (List.mem_cons_of_mem _ hy)) h2⟩
    obtain ⟨b, hb, e⟩ := List.mem_map.1 hm
    have := hf b (List.mem_cons_of_mem _ hb) a List.mem_cons_self e
    exact h1 (this ▸ hb)
theorem TxOk.len {ws : List Nat} {l : List (Nat × Nat)} (h : TxOk ws l) : l.length ≤ ws.length := by
  have h1 : ((txKeys l).map (· / 8)).Nodup := nodup_map (fun a ha b hb e => by
    obtain ⟨p, hp, rfl⟩ := List.mem_map.1 ha
    obtain ⟨q, hq, rfl⟩ := List.mem_map.1 hb
    have := (h.stand p hp).1
    have := (h.stand q hq).1
    omega) h.once
  have := nodup_below ws.length _ h1 (fun x hx => by
    obtain ⟨y, hy, rfl⟩ := List.mem_map.1 hx
    obtain ⟨p, hp, rfl⟩ := List.mem_map.1 hy
    have := (h.stand p hp).2
    omega)
  simpa [txKeys] using this
theorem TxOk.off_lt {ws : List Nat} {l : List (Nat × Nat)} (h : TxOk ws l) (hm : ws.length ≤ 131072) : ∀ p ∈ l, p.1 < 1048576 := fun p hp => by
  have := (h.stand p hp).2
  omega
theorem TxOk.put {ws : List Nat} {l : List (Nat × Nat)} (h : TxOk ws l) (off v : Nat) : TxOk (put ws off v) l :=
  ⟨h.once, fun p hp => by have := h.stand p hp; unfold stands at this ⊢; rwa [put_len], h.word⟩

/-- a word, as it is thought of -/
def txSee (ws : List Nat) (l : List (Nat × Nat)) (off : Nat) : Nat := (txGet l off).getD (getW ws off)
/-- Store -/
def txStore (ws : List Nat) (l : List (Nat × Nat)) (off v : Nat) : List (Nat × Nat) := if stands ws off then txSet l off v else l
theorem TxOk.store {ws : List Nat} {l : List (Nat × Nat)} (h : TxOk ws l) (off : Nat) {v : Nat} (hv : v < 18446744073709551616) : TxOk ws (txStore ws l off v) := by
  unfold txStore
  split
  · exact h.set ‹_› hv
  · exact h
/-- Apply -/
def txApply (ws : List Nat) (l : List (Nat × Nat)) : List Nat := l.foldl (fun ws p => put ws p.1 p.2) ws
theorem txApply_len (ws : List Nat) (l : List (Nat × Nat)) : (txApply ws l).length = ws.length := by
  induction l generalizing ws with
  | nil => rfl
  | cons p r ih =>
    show (txApply (put ws p.1 p.2) r).length = _
    rw [ih, put_len]
theorem txSee_lt {ws : List Nat} {l : List (Nat × Nat)} (hw : ∀ x ∈ ws, x < 18446744073709551616) (h : TxOk ws l) (off : Nat) : txSee ws l off < 18446744073709551616 := by
  unfold txSee
  rcases e : txGet l off with _ | y
  · exact getW_lt hw off
  · exact h.word _ (txGet_mem e)

/-! ### Memory -/
theorem key_lit (x : Int) : WideAt.IsKeyLit (.int .u64 x) := by simp [WideAt.IsKeyLit]
/-- What a map's datum says of pairs. -/
structure Says (D : DataW Unit) (l : List (Nat × Nat)) : Prop where
  size : Maps.size D = l.length
  has : ∀ x : Nat, Maps.has D (.int .u64 x) = (txGet l x).isSome
  at_ : ∀ x : Nat, D.atKey (.int .u64 x) (.lit (.int .u64 0)) = .lit (.int .u64 ((txGet l x).getD 0 : Nat))
theorem Says.empty : Says (.map []) [] := ⟨rfl, fun _ => rfl, fun _ => rfl⟩
theorem Says.put {D : DataW Unit} {l : List (Nat × Nat)} (h : Says D l) (ht : Maps.Tidy D) (off v : Nat) : Says (D.put (.int .u64 off) (.lit (.int .u64 v))) (txSet l off v) where
  size := by rw [Maps.size_put ht, txSet_len, h.size, h.has off]
  has := fun x => by
    rw [txGet_set]
    by_cases e : x = off
    · subst e
      rw [if_pos rfl, Maps.has_put_same ht.isMap (key_lit _)]; rfl
    · rw [if_neg e, Maps.has_put_other (fun h => e (by injection h with _ h; omega)), h.has x]
  at_ := fun x => by
    rw [txGet_set]
    by_cases e : x = off
    · subst e
      rw [if_pos rfl, Maps.atKey_put_same ht.isMap (key_lit _)]; rfl
    · rw [if_neg e, Maps.atKey_put_other (fun h => e (by injection h with _ h; omega)), h.at_ x]
/-- Block M is a map that says these pairs. -/
def MapAt (w : World) (M : Nat) (l : List (Nat × Nat)) : Prop := ∃ D : DataW Unit, w.ownsMap Tryz.prog 23 (plainElem Tryz.prog 23) M l.length D ∧ Says D l
theorem keyed_u64 : Maps.Keyed Tryz.prog 23 := Maps.int_keyed Tryz.underlying23
theorem zero_u64 (w : World) : (zeroValue 23).run Tryz.prog w = .ok (.int .u64 0) w := by kernel_rfl
theorem wf_u64 (x : Nat) (h : x < 18446744073709551616) : (Lit.int .u64 (x : Int)).wf = true :=
  WalkArith.wf_u64 (by omega)
theorem key_u64 (x : Nat) (h : x < 18446744073709551616) : keyOf Tryz.prog 23 (.int .u64 x) = some (.int .u64 x) := Maps.keyOf_int_mk Tryz.underlying23 (wf_u64 x h)
/-- Blocks T, M, and the row of the turn's (if there is one: R) are a Tx over the segment of blocks B and D, whose words are ws; it thinks of l. -/
structure Thinks (w : World) (T M : Nat) (R : Option Nat) (B D : Nat) (ws : List Nat) (l : List (Nat × Nat)) : Prop where
  seg : IsSeg w B D ws
  head : ∃ tv, w.heap[T]? = some (.cells #[.pointer (some ⟨B, 0, none⟩), .map (some M), tv] 109 (0, 0)) ∧ OwnW w 0 tv (txKeys l) ∧ tv.ownBlock = R
  map : MapAt w M l
  ok : TxOk ws l
/-- the Tx's own blocks -/
def foot (T M : Nat) (R : Option Nat) : Nat → Prop := fun k => k = T ∨ k = M ∨ R = some k
section
variable {w w' : World} {T M : Nat} {R : Option Nat} {B D : Nat} {ws : List Nat} {l : List (Nat × Nat)}
theorem Thinks.ltT (h : Thinks w T M R B D ws l) : T < w.heap.size := by
  obtain ⟨tv, h1, _⟩ := h.head
  exact lt_of_block h1
theorem Thinks.ltM (h : Thinks w T M R B D ws l) : M < w.heap.size := by
  obtain ⟨Da, h1, _⟩ := h.map
  exact h1.lt
theorem Thinks.row (h : Thinks w T M R B D ws l) {g : Nat} (hR : R = some g) : ∃ cur, w.heap[g]? = some (.cells cur 23 (0, 0)) := by
  obtain ⟨tv, _, h2, h3⟩ := h.head
  exact (row_block h2 (h3.trans hR)).2
theorem Thinks.ltR (h : Thinks w T M R B D ws l) {g : Nat} (hR : R = some g) : g < w.heap.size := by
  obtain ⟨cur, h1⟩ := h.row hR
  exact lt_of_block h1
theorem Thinks.foot_lt (h : Thinks w T M R B D ws l) {k : Nat} (hk : foot T M R k) : k < w.heap.size := by
  rcases hk with rfl | rfl | hk
  · exact h.ltT
  · exact h.ltM
  · exact h.ltR hk
/-- Neither of the segment's blocks is the Tx's. -/
theorem Thinks.notB (h : Thinks w T M R B D ws l) : ¬ foot T M R B := by
  obtain ⟨tv, h1, _⟩ := h.head
  obtain ⟨Da, h2, _⟩ := h.map
  obtain ⟨es, clock, h2⟩ := map_block h2
  rintro (e | e | e)
  · exact ne_type h.seg.head h1 (by decide) e
  · exact ne_map h.seg.head h2 e
  · obtain ⟨cur, h3⟩ := h.row e
    exact ne_type h.seg.head h3 (by decide) rfl
theorem Thinks.notD (h : Thinks w T M R B D ws l) : ¬ foot T M R D := by
  obtain ⟨tv, h1, _⟩ := h.head
  obtain ⟨Da, h2, _⟩ := h.map
  obtain ⟨es, clock, h2⟩ := map_block h2
  rintro (e | e | e)
  · exact ne_type h.seg.data h1 (by decide) e
  · exact ne_map h.seg.data h2 e
  · obtain ⟨cur, h3⟩ := h.row e
    exact ne_type h.seg.data h3 (by decide) rfl
theorem Thinks.neTM (h : Thinks w T M R B D ws l) : T ≠ M := by
  obtain ⟨tv, h1, _⟩ := h.head
  obtain ⟨Da, h2, _⟩ := h.map
  obtain ⟨es, clock, h2⟩ := map_block h2
  exact ne_map h1 h2
theorem Thinks.neTR (h : Thinks w T M R B D ws l) : R ≠ some T := by
  obtain ⟨tv, h1, _⟩ := h.head
  intro e
  obtain ⟨cur, h3⟩ := h.row e
  exact ne_type h1 h3 (by decide) rfl
theorem Thinks.neMR (h : Thinks w T M R B D ws l) : R ≠ some M := by
  obtain ⟨Da, h2, _⟩ := h.map
  obtain ⟨es, clock, h2⟩ := map_block h2
  intro e
  obtain ⟨cur, h3⟩ := h.row e
  exact ne_map h3 h2 rfl
theorem Thinks.turned (h : Thinks w T M R B D ws l) {p : Nat → Prop} (ht : Turned p w w') (hf : ∀ k, p k → ¬ foot T M R k ∧ k ≠ B ∧ k ≠ D) : Thinks w' T M R B D ws l where
  seg := h.seg.turned ht (fun hp => (hf _ hp).2.1 rfl) (fun hp => (hf _ hp).2.2 rfl)
  head := by
    obtain ⟨tv, h1, h2, h3⟩ := h.head
    exact ⟨tv, ht.heap h1 (fun hp => (hf _ hp).1 (.inl rfl)), row_turned h2 ht (fun g hg hp => (hf _ hp).1 (.inr (.inr (h3.symm.trans hg)))), h3⟩
  map := by
    obtain ⟨Da, h1, h2⟩ := h.map
    exact ⟨Da, map_turned h1 ht (fun hp => (hf _ hp).1 (.inr (.inl rfl))), h2⟩
  ok := h.ok
theorem Thinks.later (h : Thinks w T M R B D ws l) (hg : w.grownBy w' none) : Thinks w' T M R B D ws l := h.turned (Turned.of_none hg (fun _ => False)) (fun _ hf => hf.elim)
/-- The segment's words turn, and nothing of the Tx. -/
theorem Thinks.seg_turned (h : Thinks w T M R B D ws l) {ws' : List Nat} (hg : w.grownBy w' (some D)) (hs : IsSeg w' B D ws') (hl : ws'.length = ws.length) : Thinks w' T M R B D ws' l := by
  have ht : Turned (fun k => some D = some k) w w' := Turned.of_grown hg
  have hn : ∀ k, foot T M R k → ¬ (some D = some k) := fun k hk e => by
    injection e with e
    subst e
    exact h.notD hk
  refine ⟨hs, ?_, ?_, ⟨h.ok.once, fun p hp => ?_, h.ok.word⟩⟩
  · obtain ⟨tv, h1, h2, h3⟩ := h.head
    exact ⟨tv, ht.heap h1 (hn _ (.inl rfl)), row_turned h2 ht (fun g hg => hn _ (.inr (.inr (h3.symm.trans hg)))), h3⟩
  · obtain ⟨Da, h1, h2⟩ := h.map
    exact ⟨Da, map_turned h1 ht (hn _ (.inr (.inl rfl))), h2⟩
  · have := h.ok.stand p hp
    unfold stands at this ⊢
    rwa [hl]
end
/-- What becomes of a Tx: it thinks of l' then; its own blocks alone have turned, and its row is the same one, or new. -/
def Thought (w : World) (T M : Nat) (R : Option Nat) (B D : Nat) (ws : List Nat) (l' : List (Nat × Nat)) (w' : World) : Prop :=
  ∃ R', Thinks w' T M R' B D ws l' ∧ Turned (foot T M R) w w' ∧ (R' = R ∨ ∃ g, R' = some g ∧ w.heap.size ≤ g)
end Go.Proofs.YtoamlkljfmgomaaGreat

/-
  Package tx: the contracts of New, Size, Old, has, Load and Bare, of a Tx that is nil, and of one over a segment.
  Conditions: the segment stands in memory; offsets and words are numbers of 64 bits.
-/
namespace Go.Proofs.YtoamlkljfmgomaaGreat
open Go.RowKit
set_option linter.unusedVariables false
set_option linter.unusedSimpArgs false

theorem txnew_nil (w : World) : Calls Tryz.prog 47 #[.pointer none] w fun e w' => e = .returned (.pointer none) ∧ w = w' := by
  go_enter Tryz.func47, Tryz.ntmps47
  go_wp2
  go_ret
  exact ⟨rfl, rfl⟩
theorem txnew_yes {w : World} {B D : Nat} {ws : List Nat} (h : IsSeg w B D ws) :
    Calls Tryz.prog 47 #[.pointer (some ⟨B, 0, none⟩)] w fun e w' => e = .returned (.pointer (some ⟨w.heap.size + 1, 0, none⟩)) ∧ w.grownBy w' none ∧ Thinks w' (w.heap.size + 1) w.heap.size none B D ws [] := by
  have hmm := @run_makeMap Tryz.prog
  go_enter Tryz.func47, Tryz.ntmps47
  go_wp2
  go_ret
  have hg : w.grownBy ((w.alloc (.map #[] 0)).alloc (.cells #[.pointer (some ⟨B, 0, none⟩), .map (some w.heap.size), .slice none 0 0] 109)) none := grown_trans (World.grownBy_alloc _ _ _) (World.grownBy_alloc _ _ _)
  refine ⟨rfl, hg, h.later hg, ⟨.slice none 0 0, ?_, World.ownsRow_nil _ _ _ _, rfl⟩, ⟨.map [], World.ownsMap.alloc (World.ownsMap_made _ _ _ _) _, Says.empty⟩, TxOk.empty _⟩
  have := heap_alloc_new' (w.alloc (.map #[] 0)) (.cells #[.pointer (some ⟨B, 0, none⟩), .map (some w.heap.size), .slice none 0 0] 109)
  rw [World.size_alloc] at this
  exact this

theorem txsize_nil (w : World) : Calls Tryz.prog 93 #[.pointer none] w fun e w' => e = .returned (.int .u64 0) ∧ w = w' := by
  go_enter Tryz.func93, Tryz.ntmps93
  go_wp2
  go_ret
  exact ⟨rfl, rfl⟩
section
variable {w : World} {T M : Nat} {R : Option Nat} {B D : Nat} {ws : List Nat} {l : List (Nat × Nat)}
theorem Thinks.cells (h : Thinks w T M R B D ws l) : ∃ tv, w.cell? ⟨T, 0, none⟩ = some (.pointer (some ⟨B, 0, none⟩)) ∧ w.cell? ⟨T, 1, none⟩ = some (.map (some M)) ∧ w.cell? ⟨T, 2, none⟩ = some tv ∧ w.frozen? ⟨T, 2, none⟩ = false ∧ OwnW w 0 tv (txKeys l) ∧ tv.ownBlock = R := by
  obtain ⟨tv, h1, h2, h3⟩ := h.head
  exact ⟨tv, by simp [World.cell?, h1], by simp [World.cell?, h1], by simp [World.cell?, h1], by simp [World.frozen?, h1], h2, h3⟩
theorem txsize_any (h : Thinks w T M R B D ws l) :
    Calls Tryz.prog 93 #[.pointer (some ⟨T, 0, none⟩)] w fun e w' => e = .returned (.int .u64 (8 * ws.length : Nat)) ∧ w = w' := by
  obtain ⟨tv, c0, _⟩ := h.cells
  have hs := size_any (.inr ⟨B, D, rfl, h.seg⟩)
  have hm := h.seg.most
  go_enter Tryz.func93, Tryz.ntmps93
  go_wp2_with (go_at_call 78; refine hs.mono ?_; rintro e w' ⟨rfl, rfl⟩)
  go_ret
  exact ⟨rfl, rfl⟩
theorem txold_any (h : Thinks w T M R B D ws l) (off : Nat) (ho : off < 18446744073709551616) :
    Calls Tryz.prog 52 #[.pointer (some ⟨T, 0, none⟩), .int .u64 off] w fun e w' => e = .returned (.int .u64 (getW ws off : Nat)) ∧ w.grownBy w' none := by
  obtain ⟨tv, c0, _⟩ := h.cells
  have hl := load_any (.inr ⟨B, D, rfl, h.seg⟩) off ho
  go_enter Tryz.func52, Tryz.ntmps52
  go_wp2_with (go_at_call 88; refine hl.mono ?_; rintro e w1 ⟨rfl, hg1⟩)
  go_ret
  exact ⟨rfl, hg1⟩
theorem errW_eq (ws : List Nat) (off : Nat) : (((errW ws off : Nat) : Int) == 0) = decide (stands ws off) := by
  unfold errW
  by_cases h : stands ws off
  · rw [if_pos h, decide_eq_true h]; rfl
  · rw [if_neg h, decide_eq_false h]; rfl
theorem txhas_any (h : Thinks w T M R B D ws l) (off : Nat) (ho : off < 18446744073709551616) :
    Calls Tryz.prog 49 #[.pointer (some ⟨T, 0, none⟩), .int .u64 off] w fun e w' => e = .returned (.bool (decide (stands ws off))) ∧ w.grownBy w' none := by
  obtain ⟨tv, c0, _⟩ := h.cells
  have hl := load_any (.inr ⟨B, D, rfl, h.seg⟩) off ho
  have he := errW_eq ws off
  have HE := Lib.hid he
  clear he
  go_enter Tryz.func49, Tryz.ntmps49
  go_wp2_with (go_at_call 88; refine hl.mono ?_; rintro e w1 ⟨rfl, hg1⟩)
  go_ret
  exact ⟨by rw [← HE.out]; rfl, hg1⟩
/-- what the map tells at an offset -/
theorem map_at (h : Thinks w T M R B D ws l) : ∃ Da : DataW Unit, w.ownsMap Tryz.prog 23 (plainElem Tryz.prog 23) M l.length Da ∧ Says Da l := h.map
theorem seen_int {off : Nat} {c : Int} {Da : DataW Unit} (hs : Says Da l) (hat : Da.atKey (.int .u64 off) (.lit (.int .u64 0)) = .lit (.int .u64 c)) : c = ((txGet l off).getD 0 : Nat) := by
  rw [hs.at_ off] at hat
  injection hat with hat
  injection hat with _ hat
  exact hat.symm
theorem txload_any (h : Thinks w T M R B D ws l) (off : Nat) (ho : off < 18446744073709551616) :
    Calls Tryz.prog 20 #[.pointer (some ⟨T, 0, none⟩), .int .u64 off] w fun e w' => e = .returned (.int .u64 (txSee ws l off : Nat)) ∧ w.grownBy w' none := by
  obtain ⟨tv, c0, c1, _⟩ := h.cells
  obtain ⟨Da, hown, hs⟩ := h.map
  have hhas := hs.has off
  have hold := txold_any h off ho
  rcases e : txGet l off with _ | y
  · rw [e] at hhas
    have hsee : txSee ws l off = getW ws off := by unfold txSee; rw [e]; rfl
    rw [hsee]
    have HH := Lib.hid hhas
    clear hhas e hsee h
    go_enter Tryz.func20, Tryz.ntmps20
    go_wp2_with (first | (at_lookup; refine wpList_lookup_own_ok_int _ rfl _ _ 107 rfl 23 23 .u64 keyed_u64 Tryz.underlying107 Tryz.underlying23 (zero_u64 _) M _ Da rfl hown _ _ rfl (key_u64 off ho) ?_; intro c hat hwc; rw [HH.out]) | (go_at_call 52; refine hold.mono ?_; rintro e w1 ⟨rfl, hg1⟩))
    go_ret
    exact ⟨rfl, hg1⟩
  · rw [e] at hhas
    have hsee : txSee ws l off = y := by unfold txSee; rw [e]; rfl
    have hy := fun c h => seen_int (off := off) (c := c) hs h
    rw [e] at hy
    rw [hsee]
    have HH := Lib.hid hhas
    have HY := Lib.hid hy
    clear hhas e hsee h hy
    go_enter Tryz.func20, Tryz.ntmps20
    go_wp2_with (first | (at_lookup; refine wpList_lookup_own_ok_int _ rfl _ _ 107 rfl 23 23 .u64 keyed_u64 Tryz.underlying107 Tryz.underlying23 (zero_u64 _) M _ Da rfl hown _ _ rfl (key_u64 off ho) ?_; intro c hat hwc; rw [HH.out]; obtain rfl := HY.out c hat))
    go_ret
    exact ⟨rfl, grown_refl _ _⟩
end
theorem txold_nil (off : Nat) (w : World) : Calls Tryz.prog 52 #[.pointer none, .int .u64 off] w fun e w' => e = .returned (.int .u64 0) ∧ w = w' := by
  go_enter Tryz.func52, Tryz.ntmps52
  go_wp2
  go_ret
  exact ⟨rfl, rfl⟩
theorem txload_nil (off : Nat) (w : World) : Calls Tryz.prog 20 #[.pointer none, .int .u64 off] w fun e w' => e = .returned (.int .u64 0) ∧ w = w' := by
  go_enter Tryz.func20, Tryz.ntmps20
  go_wp2
  go_ret
  exact ⟨rfl, rfl⟩
theorem txhas_nil (off : Nat) (w : World) : Calls Tryz.prog 49 #[.pointer none, .int .u64 off] w fun e w' => e = .returned (.bool false) ∧ w = w' := by
  go_enter Tryz.func49, Tryz.ntmps49
  go_wp2
  go_ret
  exact ⟨rfl, rfl⟩
theorem txstore_nil (off v : Nat) (w : World) : Calls Tryz.prog 17 #[.pointer none, .int .u64 off, .int .u64 v] w fun e w' => e = .returned (.tuple #[]) ∧ w = w' := by
  have hh := txhas_nil off w
  go_enter Tryz.func17, Tryz.ntmps17
  go_wp2_with (go_at_call 49; refine hh.mono ?_; rintro e w' ⟨rfl, rfl⟩)
  refine bodyPost_ret (results_none rfl _ _ _) rfl ?_
  exact ⟨rfl, rfl⟩
end Go.Proofs.YtoamlkljfmgomaaGreat

/-
  Package tx: the contract of Store: the Tx thinks of the word, if the segment has one at the offset; nothing but the Tx's own blocks turns.
  Conditions: the segment stands in memory; offsets and words are numbers of 64 bits.
-/
namespace Go.Proofs.YtoamlkljfmgomaaGreat
open Go.RowKit
set_option linter.unusedVariables false
set_option linter.unusedSimpArgs false

/-- 'append(out, y)' of one number of 64 bits, and where the row lies then. -/
theorem wpList_append_u64_at {w2 : World} {ops : Array Oper} {rest : List Oper} {o : Oper} {a : Act} {Q : Exit → Act → World → Prop} (hgd : o.guard = none) (s x : Operand)
    (ho : o.op = .call { callee := .builtin .append, args := #[s, x], argTypes := #[27, 27] })
    (base : Nat) (v : Value) (n : Nat) (xs : List Value) (hs : a.eval s = v) (hown : w2.ownsRow base 23 1 v n xs) (y : Int)
    (hx : a.eval x = .slice (some ⟨w2.heap.size, 0, none⟩) 1 1) (hn : n ≤ 1000000000) (hbase : base ≤ w2.heap.size)
    (h : ∀ v' w', w'.ownsRow base 23 1 v' (n + 1) (xs ++ [.int .u64 y]) → (w2.alloc (.cells #[.int .u64 y] 23)).grownBy w' v.ownBlock → (v'.ownBlock = v.ownBlock ∨ v'.ownBlock = some (w2.heap.size + 1)) → wpList Tryz.prog ops Q rest (a.put o.dst v') w') :
    wpList Tryz.prog ops Q (o :: rest) a (w2.alloc (.cells #[.int .u64 y] 23)) := by
  obtain ⟨i0, hi, hz0, hz1, hz2⟩ := info_parts info_u64
  refine wpList_append_own_at _ hgd s x 27 ho base 23 i0 (.int .u64 0) 1 8 Tryz.underlying27 hi hz0 hz1 hz2 rfl (by decide) v n xs hs (hown.alloc _) ⟨w2.heap.size, 0, none⟩ 1 1 [.int .u64 y] hx rfl ?_ ?_ ?_ ?_ ?_ fun v' w' h1 h2 _ h4 => h v' w' h1 h2 (by rw [World.size_alloc] at h4; exact h4)
  · intro j u hj
    rcases j with _ | j
    · simp at hj
      subst hj
      exact World.cell?_alloc_at _ _ _ _ rfl
    · simp at hj
  · intro u hu
    simp at hu
    subst hu
    rfl
  · unfold maxLen; omega
  · omega
  · rw [World.size_alloc]; omega

section
variable {w w1 w3 w5 : World} {T M : Nat} {R : Option Nat} {B D : Nat} {ws : List Nat} {l l' : List (Nat × Nat)}
theorem Thought.same (h : Thinks w T M R B D ws l) (hg : w.grownBy w1 none) : Thought w T M R B D ws l w1 := ⟨R, h.later hg, Turned.of_none hg _, .inl rfl⟩
theorem Thought.first (hg : w.grownBy w1 none) (h : Thought w1 T M R B D ws l w3) : Thought w T M R B D ws l w3 := by
  obtain ⟨R', h1, h2, h3⟩ := h
  refine ⟨R', h1, Turned.first hg h2, ?_⟩
  rcases h3 with h3 | ⟨g, h3, h4⟩
  · exact .inl h3
  · exact .inr ⟨g, h3, Nat.le_trans hg.size h4⟩
theorem Thought.later (h : Thought w T M R B D ws l w1) (hg : w1.grownBy w3 none) : Thought w T M R B D ws l w3 := by
  obtain ⟨R', h1, h2, h3⟩ := h
  exact ⟨R', h1.later hg, h2.later hg, h3⟩
/-- A Tx's own blocks behind a step are its own ahead of it, or new. -/
theorem foot_new {R' : Option Nat} {n : Nat} (h : R' = R ∨ ∃ g, R' = some g ∧ n ≤ g) {k : Nat} (hk : foot T M R' k) : foot T M R k ∨ n ≤ k := by
  rcases hk with hk | hk | hk
  · exact .inl (.inl hk)
  · exact .inl (.inr (.inl hk))
  · rcases h with rfl | ⟨g, rfl, hg⟩
    · exact .inl (.inr (.inr hk))
    · injection hk with hk
      subst hk
      exact .inr hg
/-- One step behind another. -/
theorem Thought.trans {R' : Option Nat} (ht : Turned (foot T M R) w w1) (hr : R' = R ∨ ∃ g, R' = some g ∧ w.heap.size ≤ g) (h : Thought w1 T M R' B D ws l w3) : Thought w T M R B D ws l w3 := by
  obtain ⟨R2, h1, h2, h3⟩ := h
  refine ⟨R2, h1, ht.trans h2 fun i hi => foot_new hr hi, ?_⟩
  rcases h3 with rfl | ⟨g, rfl, hg⟩
  · exact hr
  · exact .inr ⟨g, rfl, Nat.le_trans ht.size hg⟩
theorem cells_block {w : World} {b : Nat} {v : Value} {o : Nat} (h : w.cell? ⟨b, o, none⟩ = some v) : b < w.heap.size := World.block_lt_of_cell? w ⟨b, o, none⟩ h
/-- A word that was thought of already is thought of otherwise. -/
theorem Thought.again (h : Thinks w T M R B D ws l) {Da : DataW Unit} (hown : w.ownsMap Tryz.prog 23 (plainElem Tryz.prog 23) M l.length Da) (hs : Says Da l) {off v y : Nat} (ho : stands ws off) (hv : v < 18446744073709551616) (hy : txGet l off = some y)
    (hown5 : w5.ownsMap Tryz.prog 23 (plainElem Tryz.prog 23) M (l.length + 1) (Da.put (.int .u64 off) (.lit (.int .u64 v)))) (hg : w.grownBy w5 (some M)) : Thought w T M R B D ws (txSet l off v) w5 := by
  have hsay := hs.put (hown.tidy keyed_u64) off v
  have ht : Turned (fun k => some M = some k) w w5 := Turned.of_grown hg
  obtain ⟨tv, h1, h2, h3⟩ := h.head
  have e1 : T ≠ M := h.neTM
  refine ⟨R, ⟨?_, ⟨tv, ht.heap h1 (by simpa using e1.symm), ?_, h3⟩, ⟨_, ?_, hsay⟩, h.ok.set ho hv⟩, ht.mono (fun k _ hk => .inr (.inl (by simpa using hk.symm))), .inl rfl⟩
  · exact h.seg.turned ht (fun e => h.notB (.inr (.inl (by injection e with e; exact e.symm)))) (fun e => h.notD (.inr (.inl (by injection e with e; exact e.symm))))
  · rw [txKeys_old v (by rw [hy]; simp)]
    exact row_turned h2 ht (fun g hg e => h.neMR (by rw [← h3, hg]; exact e.symm))
  · have := map_tight hown5
    rwa [hsay.size] at this
/-- The facts ahead of the map's store, behind the append and the store of the turn. -/
theorem turn_stored (h : Thinks w T M R B D ws l) {tv v' : Value} (h1 : w.heap[T]? = some (.cells #[.pointer (some ⟨B, 0, none⟩), .map (some M), tv] 109 (0, 0))) (h3 : tv.ownBlock = R) (y : Int)
    (hown3 : w3.ownsRow 0 23 1 v' (l.length + 1) (cellsU (txKeys l) ++ [.int .u64 y])) (hg : (w.alloc (.cells #[.int .u64 y] 23)).grownBy w3 tv.ownBlock) :
    w3.heap[T]? = some (.cells #[.pointer (some ⟨B, 0, none⟩), .map (some M), tv] 109 (0, 0)) ∧
    (∀ {Da : DataW Unit}, w.ownsMap Tryz.prog 23 (plainElem Tryz.prog 23) M l.length Da → (w3.setCell ⟨T, 2, none⟩ v').ownsMap Tryz.prog 23 (plainElem Tryz.prog 23) M l.length Da) ∧
    ∃ g cap, v' = .slice (some ⟨g, 0, none⟩) (l.length + 1) cap := by
  rw [h3] at hg
  have ha : w.grownBy (w.alloc (.cells #[.int .u64 y] 23)) none := World.grownBy_alloc _ _ _
  have hh := h.later ha
  refine ⟨(hg.block T (by have := h.ltT; rw [World.size_alloc]; omega) (fun e => h.neTR e.symm)).trans ((ha.block T h.ltT (by simp)).trans h1), fun hown => ?_, ?_⟩
  · refine World.ownsMap.setCell ((hown.kept ha (by simp)).kept hg ?_) (fun e => h.neTM e.symm) _
    intro e
    exact h.neMR e.symm
  · obtain ⟨g, cap, e⟩ := ownsRow_succ hown3
    exact ⟨g, cap, e⟩
/-- A word more is thought of. -/
theorem Thought.more (h : Thinks w T M R B D ws l) {tv v' : Value} (h1 : w.heap[T]? = some (.cells #[.pointer (some ⟨B, 0, none⟩), .map (some M), tv] 109 (0, 0))) (h3 : tv.ownBlock = R)
    {Da : DataW Unit} (hown : w.ownsMap Tryz.prog 23 (plainElem Tryz.prog 23) M l.length Da) (hs : Says Da l) {off v : Nat} (ho : stands ws off) (hv : v < 18446744073709551616) (hy : txGet l off = none)
    (hown3 : w3.ownsRow 0 23 1 v' (l.length + 1) (cellsU (txKeys l) ++ [.int .u64 (off : Nat)])) (hg : (w.alloc (.cells #[.int .u64 (off : Nat)] 23)).grownBy w3 tv.ownBlock)
    (hloc : v'.ownBlock = tv.ownBlock ∨ v'.ownBlock = some (w.heap.size + 1))
    (hown5 : w5.ownsMap Tryz.prog 23 (plainElem Tryz.prog 23) M (l.length + 1) (Da.put (.int .u64 off) (.lit (.int .u64 v)))) (hg5 : (w3.setCell ⟨T, 2, none⟩ v').grownBy w5 (some M)) : Thought w T M R B D ws (txSet l off v) w5 := by
  obtain ⟨t1, t2, _⟩ := turn_stored h h1 h3 _ hown3 hg
  have hsay := hs.put (hown.tidy keyed_u64) off v
  rw [h3] at hg hloc
  have ha : w.grownBy (w.alloc (.cells #[.int .u64 (off : Nat)] 23)) none := World.grownBy_alloc _ _ _
  have s3 : Turned (foot T M R) w w3 := (Turned.of_none ha (foot T M R)).trans (Turned.of_grown hg) (fun i hi => .inl (.inr (.inr hi)))
  have s4 : Turned (foot T M R) w (w3.setCell ⟨T, 2, none⟩ v') := s3.trans (Turned.of_grown (grown_set _ _ _ _)) (fun i hi => .inl (.inl (by injection hi with hi; exact hi.symm)))
  have s5 : Turned (foot T M R) w w5 := s4.trans (Turned.of_grown hg5) (fun i hi => .inl (.inr (.inl (by injection hi with hi; exact hi.symm))))
  have q5 : Turned (fun k => some M = some k) (w3.setCell ⟨T, 2, none⟩ v') w5 := Turned.of_grown hg5
  have hrow4 : (w3.setCell ⟨T, 2, none⟩ v').ownsRow 0 23 1 v' (l.length + 1) (cellsU (txKeys l) ++ [.int .u64 (off : Nat)]) :=
    row_turned hown3 (Turned.of_grown (grown_set w3 T 2 v')) (fun g hg' e => by
      injection e with e
      subst e
      obtain ⟨_, cur, h4⟩ := row_block hown3 hg'
      exact ne_type t1 h4 (by decide) rfl)
  have hT4 : (w3.setCell ⟨T, 2, none⟩ v').heap[T]? = some (.cells #[.pointer (some ⟨B, 0, none⟩), .map (some M), v'] 109 (0, 0)) := by
    rw [heap_setCell_same t1]; rfl
  have hT5 := q5.heap hT4 (by simpa using h.neTM.symm)
  obtain ⟨es, clock, hM4⟩ := map_block (t2 hown)
  have hrow5 : w5.ownsRow 0 23 1 v' (l.length + 1) (cellsU (txKeys l) ++ [.int .u64 (off : Nat)]) :=
    row_turned hrow4 q5 (fun g hg' e => by
      injection e with e
      subst e
      obtain ⟨_, cur, h4⟩ := row_block hrow4 hg'
      exact ne_map h4 hM4 rfl)
  refine ⟨v'.ownBlock, ⟨h.seg.turned s5 h.notB h.notD, ⟨v', hT5, ?_, rfl⟩, ⟨_, ?_, hsay⟩, h.ok.set ho hv⟩, s5, ?_⟩
  · unfold OwnW
    rw [txKeys_new v hy]
    have e2 : (txKeys l ++ [off]).length = l.length + 1 := by simp [txKeys]
    rw [e2]
    simpa [cellsU] using hrow5
  · have := map_tight hown5
    rwa [hsay.size] at this
  · rcases hloc with e | e
    · exact .inl e
    · exact .inr ⟨_, e, Nat.le_succ _⟩

set_option maxHeartbeats 1000000 in
theorem txstore_any (h : Thinks w T M R B D ws l) (off v : Nat) (ho : off < 18446744073709551616) (hv : v < 18446744073709551616) :
    Calls Tryz.prog 17 #[.pointer (some ⟨T, 0, none⟩), .int .u64 off, .int .u64 v] w fun e w' => e = .returned (.tuple #[]) ∧ Thought w T M R B D ws (txStore ws l off v) w' := by
  have hhas := txhas_any h off ho
  by_cases hs : stands ws off
  · rw [decide_eq_true hs] at hhas
    have e0 : txStore ws l off v = txSet l off v := by unfold txStore; rw [if_pos hs]
    rw [e0]
    have hlen := Nat.le_trans h.ok.len h.seg.most
    rcases e : txGet l off with _ | y
    · have HS := Lib.hid hs
      have HE := Lib.hid e
      clear hs e e0
      go_enter Tryz.func17, Tryz.ntmps17
      go_wp2_with (first | (go_at_call 49; refine hhas.mono ?_; rintro e w1 ⟨rfl, hg1⟩; have hT := h.later hg1; obtain ⟨tv, h1, h2, h3⟩ := hT.head; have c0 : w1.cell? ⟨T, 1, none⟩ = some (.map (some M)) := (by simp [World.cell?, h1]); have c2 : w1.cell? ⟨T, 2, none⟩ = some tv := (by simp [World.cell?, h1]); obtain ⟨Da, hown, hsay⟩ := hT.map; have HH := Lib.hid (hsay.has off); have H1 := Lib.hid h1; clear h1; have H3 := Lib.hid h3; clear h3) | (at_lookup; refine wpList_lookup_own_ok_int _ rfl _ _ 107 rfl 23 23 .u64 keyed_u64 Tryz.underlying107 Tryz.underlying23 (zero_u64 _) M _ Da rfl hown _ _ rfl (key_u64 off ho) ?_; intro c hat hwc; rw [HH.out, HE.out]) | (at_builtin; go_must (refine wpList_append_u64_at rfl _ _ rfl 0 tv l.length (cellsU (txKeys l)) rfl (by rw [← txKeys_len]; exact h2) _ rfl (by omega) (Nat.zero_le _) ?_); intro v' w3 hown3 hg4 hloc; obtain ⟨t1, t2, g', cap', hv'⟩ := turn_stored hT H1.out H3.out _ hown3 hg4; subst hv'; have c3 : w3.cell? ⟨T, 2, none⟩ = some tv := (by simp [World.cell?, t1]); have c4 : w3.cell? ⟨T, 1, none⟩ = some (.map (some M)) := (by simp [World.cell?, t1]); have f3 : w3.frozen? ⟨T, 2, none⟩ = false := (by simp [World.frozen?, t1]); have hown4 := t2 hown; have HL := Lib.hid hloc; clear t1 t2 hloc) | (at_mapUpdate; go_must (refine wpList_mapUpdate_own _ rfl _ _ _ 107 rfl 23 23 keyed_u64 Tryz.underlying107 _ M l.length _ rfl hown4 (by unfold maxLen; omega) _ _ _ rfl rfl (key_u64 off ho) _ [] (plainElem_int Tryz.underlying23 (wf_u64 v hv)) ?_); intro w5 hown5 hg5))
      go_end0
      exact ⟨rfl, Thought.first hg1 (Thought.more hT H1.out H3.out hown hsay HS.out hv HE.out hown3 hg4 HL.out hown5 hg5)⟩
    · have HS := Lib.hid hs
      have HE := Lib.hid e
      clear hs e e0
      go_enter Tryz.func17, Tryz.ntmps17
      go_wp2_with (first | (go_at_call 49; refine hhas.mono ?_; rintro e w1 ⟨rfl, hg1⟩; have hT := h.later hg1; obtain ⟨tv, h1, h2, h3⟩ := hT.head; have c0 : w1.cell? ⟨T, 1, none⟩ = some (.map (some M)) := (by simp [World.cell?, h1]); obtain ⟨Da, hown, hsay⟩ := hT.map; have HH := Lib.hid (hsay.has off); clear h1 h3) | (at_lookup; refine wpList_lookup_own_ok_int _ rfl _ _ 107 rfl 23 23 .u64 keyed_u64 Tryz.underlying107 Tryz.underlying23 (zero_u64 _) M _ Da rfl hown _ _ rfl (key_u64 off ho) ?_; intro c hat hwc; rw [HH.out, HE.out]) | (at_mapUpdate; go_must (refine wpList_mapUpdate_own _ rfl _ _ _ 107 rfl 23 23 keyed_u64 Tryz.underlying107 _ M l.length _ rfl hown (by unfold maxLen; omega) _ _ _ rfl rfl (key_u64 off ho) _ [] (plainElem_int Tryz.underlying23 (wf_u64 v hv)) ?_); intro w5 hown5 hg5))
      go_end0
      exact ⟨rfl, Thought.first hg1 (Thought.again hT hown hsay HS.out hv HE.out hown5 hg5)⟩
  · rw [decide_eq_false hs] at hhas
    have e0 : txStore ws l off v = l := by unfold txStore; rw [if_neg hs]
    rw [e0]
    clear hs e0
    go_enter Tryz.func17, Tryz.ntmps17
    go_wp2_with (go_at_call 49; refine hhas.mono ?_; rintro e w1 ⟨rfl, hg1⟩)
    refine bodyPost_ret (results_none rfl _ _ _) rfl ?_
    exact ⟨rfl, Thought.same h hg1⟩
end
end Go.Proofs.YtoamlkljfmgomaaGreat

/-
  Package tx: what 'words' hands back, as an iterator: it tells each word that is thought of, in turn, whatever the loop's body does that keeps the Tx.
  Conditions: the Tx is nil, or stands in memory.
-/
namespace Go.Proofs.YtoamlkljfmgomaaGreat
open Go.RowKit Go.Shelf
set_option linter.unusedVariables false
set_option linter.unusedSimpArgs false
attribute [local go_sem] Oper.semAt_some

/-- the k-th pair's offset, and its word -/
def txX (l : List (Nat × Nat)) (k : Nat) : Nat := (l.getD k (0, 0)).1
def txV (l : List (Nat × Nat)) (k : Nat) : Nat := (l.getD k (0, 0)).2
theorem txX_keys (l : List (Nat × Nat)) (k : Nat) : (txKeys l).getD k 0 = txX l k := by
  unfold txKeys txX
  rw [List.getD_eq_getElem?_getD, List.getD_eq_getElem?_getD, List.getElem?_map]
  cases l[k]? <;> rfl
theorem getD_mem {α : Type} {l : List α} {k : Nat} (d : α) (h : k < l.length) : l.getD k d ∈ l := by
  rw [List.getD_eq_getElem?_getD, List.getElem?_eq_getElem h]
  exact List.getElem_mem h
theorem TxOk.getD {ws : List Nat} {l : List (Nat × Nat)} (h : TxOk ws l) {k : Nat} (hk : k < l.length) : txGet l (txX l k) = some (txV l k) :=
  txGet_of_mem h.once (getD_mem (0, 0) hk)
theorem TxOk.lt {ws : List Nat} {l : List (Nat × Nat)} (h : TxOk ws l) (hm : ws.length ≤ 131072) (k : Nat) : txX l k < 18446744073709551616 ∧ txV l k < 18446744073709551616 := by
  unfold txX txV
  rcases Nat.lt_or_ge k l.length with hk | hk
  · have := getD_mem (0, 0) hk
    exact ⟨by have := h.off_lt hm _ this; omega, h.word _ this⟩
  · rw [List.getD_eq_getElem?_getD, List.getElem?_eq_none hk]
    exact ⟨by decide, by decide⟩

/-- What a body that goes on keeps: the Tx's own blocks, and the variable's box. -/
def TxKeep (T M : Nat) (R : Option Nat) (bx : Nat) (A C : World) : Prop := A.heap.size ≤ C.heap.size ∧ ∀ k, foot T M R k ∨ k = bx → C.heap[k]? = A.heap[k]?
theorem TxKeep.refl (T M : Nat) (R : Option Nat) (bx : Nat) (A : World) : TxKeep T M R bx A A := ⟨Nat.le_refl _, fun _ _ => rfl⟩
theorem TxKeep.trans {T M : Nat} {R : Option Nat} {bx : Nat} {A C E : World} (h : TxKeep T M R bx A C) (k : TxKeep T M R bx C E) : TxKeep T M R bx A E := ⟨Nat.le_trans h.1 k.1, fun i hi => (k.2 i hi).trans (h.2 i hi)⟩
theorem TxKeep.put {T M : Nat} {R : Option Nat} {bx : Nat} {w : World} (hf : ∀ k, foot T M R k → k < w.heap.size) (hb : bx < w.heap.size) (W : World) (l : Nat) (o o' : Obj) (hl : w.heap.size ≤ l) (h : W.heap[l]? = some o) (_ : o.isCells = false) (_ : o.isWalk = false) : TxKeep T M R bx W (W.putObj l o') :=
  ⟨by simp, fun k hk => World.putObj_heap_other (by
    rcases hk with hk | rfl
    · have := hf k hk; omega
    · omega)⟩
theorem TxKeep.grown {T M : Nat} {R : Option Nat} {bx : Nat} {A C : World} {row : Option Nat} (hg : A.grownBy C row) (hf : ∀ k, foot T M R k → k < A.heap.size) (hb : bx < A.heap.size) (hr : ∀ g, row = some g → ¬ foot T M R g ∧ g ≠ bx) : TxKeep T M R bx A C :=
  ⟨hg.size, fun k hk => hg.block k (by
    rcases hk with hk | rfl
    · exact hf k hk
    · exact hb) (fun e => by
      obtain ⟨h1, h2⟩ := hr k e.symm
      rcases hk with hk | hk
      · exact h1 hk
      · exact h2 hk)⟩
/-- A Tx's own memory. -/
structure TxMem (w : World) (T M : Nat) (R : Option Nat) (B : Nat) (tv : Value) (l : List (Nat × Nat)) : Prop where
  head : w.heap[T]? = some (.cells #[.pointer (some ⟨B, 0, none⟩), .map (some M), tv] 109 (0, 0))
  row : OwnW w 0 tv (txKeys l)
  own : tv.ownBlock = R
  map : MapAt w M l
theorem Thinks.mem {w : World} {T M : Nat} {R : Option Nat} {B D : Nat} {ws : List Nat} {l : List (Nat × Nat)} (h : Thinks w T M R B D ws l) : ∃ tv, TxMem w T M R B tv l := by
  obtain ⟨tv, h1, h2, h3⟩ := h.head
  exact ⟨tv, h1, h2, h3, h.map⟩
theorem TxMem.keep {A C : World} {T M : Nat} {R : Option Nat} {B bx : Nat} {tv : Value} {l : List (Nat × Nat)} (h : TxMem A T M R B tv l) (hk : TxKeep T M R bx A C) : TxMem C T M R B tv l where
  head := (hk.2 T (.inl (.inl rfl))).trans h.head
  row := by
    have h1 := h.row
    have h2 := h.own
    unfold OwnW at h1 ⊢
    refine ⟨h1.1, ?_⟩
    rcases h1.2 with hn | ⟨g, cap, cur, rfl, hb, hgg, rest⟩
    · exact .inl hn
    · exact .inr ⟨g, cap, cur, rfl, hb, (hk.2 g (.inl (.inr (.inr h2.symm)))).trans hgg, rest⟩
  own := h.own
  map := by
    obtain ⟨Da, ⟨es, clock, h1, rest⟩, h2⟩ := h.map
    exact ⟨Da, ⟨es, clock, (hk.2 M (.inl (.inr (.inl rfl)))).trans h1, rest⟩, h2⟩

end Go.Proofs.YtoamlkljfmgomaaGreat

/-
  slices.Collect at pairs, over whatever iterator that tells N of them; Puts: all words that are thought of.
  Conditions: the iterator has its contract, of at most 1000000 pairs; the Tx is nil, or stands in memory.
-/
namespace Go.Proofs.YtoamlkljfmgomaaGreat
open Go.RowKit Go.Shelf
set_option linter.unusedVariables false
set_option linter.unusedSimpArgs false
attribute [local go_sem] Oper.semAt_some

theorem info_put : (Tryz.prog.info? 58).map (fun i => (i.zero, i.size, i.bytes)) = some (some (.agg #[.int .u64 0, .int .u64 0]), 2, 16) := by kernel_rfl
/-- pairs, as cells -/
def cellsXV (X V : Nat → Nat) (l : List Nat) : List Value := l.flatMap fun k => [.int .u64 (X k : Nat), .int .u64 (V k : Nat)]
theorem cellsXV_snoc (X V : Nat → Nat) (l : List Nat) (k : Nat) : cellsXV X V (l ++ [k]) = cellsXV X V l ++ [.int .u64 (X k : Nat), .int .u64 (V k : Nat)] := by
  simp [cellsXV, List.flatMap_append]
theorem below_keep {T M : Nat} {R : Option Nat} {bx : Nat} {w W W' : World} (hf : ∀ k, foot T M R k → k < w.heap.size) (hb : bx < w.heap.size) (h : Below w.heap.size W W') : TxKeep T M R bx W W' :=
  ⟨h.size, fun k hk => h.block k (by
    rcases hk with hk | rfl
    · exact hf k hk
    · exact hb)⟩
theorem cells_two_new (W : World) (t : TypeId) (x y : Value) : ∀ j u, [x, y][j]? = some u → (W.alloc (.cells #[x, y] t)).cell? ((⟨W.heap.size, 0, none⟩ : Addr).add j) = some u := by
  intro j u hj
  have hb : (W.alloc (.cells #[x, y] t)).heap[W.heap.size]? = some (.cells #[x, y] t (0, 0)) := heap_alloc_new' _ _
  have hadd : ∀ j, (⟨W.heap.size, 0, none⟩ : Addr).add j = ⟨W.heap.size, j, none⟩ := fun j => by unfold Addr.add; split <;> simp_all
  rw [hadd]
  unfold World.cell?
  simp only [hb]
  rcases j with _ | _ | j
  · simp at hj; subst hj; rfl
  · simp at hj; subst hj; rfl
  · simp at hj
/-- pairs, as cells -/
def cellsP (l : List (Nat × Nat)) : List Value := l.flatMap fun p => [.int .u64 (p.1 : Nat), .int .u64 (p.2 : Nat)]
theorem cellsP_range (l : List (Nat × Nat)) : cellsXV (txX l) (txV l) (List.range l.length) = cellsP l := by
  unfold cellsXV cellsP
  have h : ∀ k, k ∈ List.range l.length → [Value.int .u64 (txX l k : Nat), Value.int .u64 (txV l k : Nat)] = (fun p : Nat × Nat => [Value.int .u64 (p.1 : Nat), Value.int .u64 (p.2 : Nat)]) (l.getD k (0, 0)) := fun _ _ => rfl
  rw [List.flatMap_def, List.flatMap_def, List.map_congr_left h]
  congr 1
  apply List.ext_getElem
  · simp
  · intro i h1 h2
    simp at h1 h2
    simp [List.getD_eq_getElem?_getD, List.getElem?_eq_getElem h1]
/-- A row of the call's own that holds these pairs (or nil, of none). -/
def OwnP (w : World) (base : Nat) (v : Value) (l : List (Nat × Nat)) : Prop := w.ownsRow base 58 2 v l.length (cellsP l)
section
variable {w : World} {T M : Nat} {R : Option Nat} {B D : Nat} {ws : List Nat} {l : List (Nat × Nat)}
end
end Go.Proofs.YtoamlkljfmgomaaGreat

/-
  The contracts of the plain answers of layer 3: Load of words; at, Old and Load of words that are thought of.
  Conditions: the words, and the pairs, are rows of the call's own, or nil; the numbers are of 64 bits.
-/
namespace Go.Proofs.YtoamlkljfmgomaaGreat
open Go.RowKit
set_option linter.unusedVariables false
set_option linter.unusedSimpArgs false

theorem rload_any {w : World} {base : Nat} {v : Value} {ws : List Nat} (h : OwnW w base v ws) (hm : ws.length ≤ 131072) (off : Nat) (ho : off < 18446744073709551616) :
    Calls Tryz.prog 86 #[v, .int .u64 off] w fun e w' => e = .returned (.tuple #[.int .u64 (getW ws off : Nat), .int .i64 (errW ws off : Nat)]) ∧ w = w' := by
  have hc := rin_any h hm off ho
  by_cases hs : stands ws off
  · rw [decide_eq_true hs] at hc
    have hq : off / 8 < ws.length := by have := hs.1; have := hs.2; omega
    obtain ⟨g0, c0, rfl, hg0, hg0'⟩ := World.ownsRow.form h (by omega)
    have hcell := OwnW.at_ h (off / 8) hq
    have e1 : getW ws off = ws.getD (off / 8) 0 := by unfold getW; rw [if_pos hs]
    have e2 : errW ws off = 0 := by unfold errW; rw [if_pos hs]
    rw [← e1] at hcell
    rw [e2]
    have hdiv : ((off : Int) / 8).toNat = off / 8 := by omega
    have hlt : (off : Int) / 8 < ws.length := by omega
    have HD := Lib.hid hdiv
    clear e1 e2 hs h hdiv
    go_enter Tryz.func86, Tryz.ntmps86
    go_wp2_with (go_at_call 114; refine hc.mono ?_; rintro e w' ⟨rfl, rfl⟩)
    go_ret2
    exact ⟨rfl, rfl⟩
  · rw [decide_eq_false hs] at hc
    have e1 : getW ws off = 0 := by unfold getW; rw [if_neg hs]
    have e2 : errW ws off = 1 := by unfold errW; rw [if_neg hs]
    rw [e1, e2]
    clear e1 e2 hs
    go_enter Tryz.func86, Tryz.ntmps86
    go_wp2_with (go_at_call 114; refine hc.mono ?_; rintro e w' ⟨rfl, rfl⟩)
    go_ret2
    exact ⟨rfl, rfl⟩

/-! ### Places -/
/-- the place of an offset -/
def txAt : List (Nat × Nat) → Nat → Option Nat
  | [], _ => none
  | p :: r, off => if p.1 = off then some 0 else (txAt r off).map (· + 1)
theorem txAt_none {l : List (Nat × Nat)} {off : Nat} : txAt l off = none ↔ txGet l off = none := by
  induction l with
  | nil => simp [txAt, txGet]
  | cons p r ih =>
    unfold txAt txGet
    by_cases e : p.1 = off
    · rw [if_pos e, if_pos e]; simp
    · rw [if_neg e, if_neg e, ← ih]; simp
theorem txX_cons (p : Nat × Nat) (r : List (Nat × Nat)) (k : Nat) : txX (p :: r) (k + 1) = txX r k := by simp [txX]
theorem txV_cons (p : Nat × Nat) (r : List (Nat × Nat)) (k : Nat) : txV (p :: r) (k + 1) = txV r k := by simp [txV]
theorem txAt_some {l : List (Nat × Nat)} {off i : Nat} (h : txAt l off = some i) : i < l.length ∧ txX l i = off ∧ txGet l off = some (txV l i) ∧ (∀ v, txSet l off v = l.set i (off, v)) ∧ ∀ j, j < i → txX l j ≠ off := by
  induction l generalizing i with
  | nil => cases h
  | cons p r ih =>
    unfold txAt at h
    by_cases e : p.1 = off
    · rw [if_pos e] at h
      injection h with h
      subst h
      refine ⟨by simp, by simpa [txX] using e, by unfold txGet; rw [if_pos e]; rfl, fun v => by unfold txSet; rw [if_pos e]; rfl, fun j hj => absurd hj (Nat.not_lt_zero _)⟩
    · rw [if_neg e] at h
      rcases e2 : txAt r off with _ | k
      · rw [e2] at h; cases h
      · rw [e2] at h
        injection h with h
        simp only at h
        subst h
        obtain ⟨h1, h2, h3, h4, h5⟩ := ih e2
        refine ⟨by simpa using h1, by rw [txX_cons]; exact h2, by unfold txGet; rw [if_neg e, h3, txV_cons], fun v => by unfold txSet; rw [if_neg e, h4]; rfl, fun j hj => ?_⟩
        rcases j with _ | j
        · simpa [txX] using e
        · rw [txX_cons]; exact h5 j (by omega)
theorem txAt_nobody {l : List (Nat × Nat)} {off : Nat} (h : txAt l off = none) : ∀ j, j < l.length → txX l j ≠ off := by
  induction l with
  | nil => intro j hj; exact absurd hj (Nat.not_lt_zero _)
  | cons p r ih =>
    unfold txAt at h
    by_cases e : p.1 = off
    · rw [if_pos e] at h; cases h
    · rw [if_neg e] at h
      have h2 : txAt r off = none := by
        rcases e2 : txAt r off with _ | k
        · rfl
        · rw [e2] at h; cases h
      intro j hj
      rcases j with _ | j
      · simpa [txX] using e
      · rw [txX_cons]; exact ih h2 j (by simpa using hj)

/-! ### Rows of pairs -/
theorem cellsP_len (l : List (Nat × Nat)) : (cellsP l).length = l.length * 2 := by
  induction l with
  | nil => rfl
  | cons p r ih =>
    unfold cellsP at ih ⊢
    rw [List.flatMap_cons, List.length_append, ih, List.length_cons]
    simp only [List.length_cons, List.length_nil]
    omega
theorem cellsP_app (a b : List (Nat × Nat)) : cellsP (a ++ b) = cellsP a ++ cellsP b := by simp [cellsP, List.flatMap_append]
theorem cellsP_one (l : List (Nat × Nat)) : ∀ u ∈ cellsP l, u.oneCell' = true := by
  intro u hu
  obtain ⟨p, _, h⟩ := List.mem_flatMap.1 hu
  simp at h
  rcases h with rfl | rfl <;> rfl
theorem cellsP_at (l : List (Nat × Nat)) (k : Nat) (h : k < l.length) : (cellsP l)[k * 2]? = some (.int .u64 (txX l k : Nat)) ∧ (cellsP l)[k * 2 + 1]? = some (.int .u64 (txV l k : Nat)) := by
  induction l generalizing k with
  | nil => exact absurd h (Nat.not_lt_zero _)
  | cons p r ih =>
    have e : cellsP (p :: r) = .int .u64 (p.1 : Nat) :: .int .u64 (p.2 : Nat) :: cellsP r := rfl
    rw [e]
    rcases k with _ | k
    · exact ⟨rfl, rfl⟩
    · have := ih k (by simpa using h)
      rw [show (k + 1) * 2 = k * 2 + 1 + 1 by omega, List.getElem?_cons_succ, List.getElem?_cons_succ, List.getElem?_cons_succ, List.getElem?_cons_succ, txX_cons, txV_cons]
      exact this
theorem OwnP.later {w w' : World} {base : Nat} {v : Value} {l : List (Nat × Nat)} (h : OwnP w base v l) (hg : w.grownBy w' none) : OwnP w' base v l := own_kept h hg
theorem OwnP.addr {w : World} {base : Nat} {v : Value} {l : List (Nat × Nat)} (h : OwnP w base v l) : ∃ a c g, v = .slice a l.length c ∧ (0 < l.length → a = some ⟨g, 0, none⟩) ∧
    ∀ w', OwnP w' base v l → ∀ k, k < l.length → w'.cell? ⟨g, k * 2, none⟩ = some (.int .u64 (txX l k : Nat)) ∧ w'.cell? ⟨g, k * 2 + 1, none⟩ = some (.int .u64 (txV l k : Nat)) := by
  rcases h.2 with ⟨h1, h2⟩ | ⟨g, cap, cur, hv, _⟩
  · exact ⟨none, 0, 0, by rw [h1, h2], fun h => by omega, fun w' _ j hj => by omega⟩
  · refine ⟨_, cap, g, hv, fun _ => rfl, fun w' h' k hk => ?_⟩
    rw [hv] at h'
    have hl := cellsP_len l
    have c0 := World.ownsRow.cellAt h' (k * 2) (by omega)
    have c1 := World.ownsRow.cellAt h' (k * 2 + 1) (by omega)
    obtain ⟨e0, e1⟩ := cellsP_at l k hk
    exact ⟨c0.trans e0, c1.trans e1⟩

/-! ### at -/
theorem txAt_is {l : List (Nat × Nat)} {off k : Nat} (h : k < l.length) (hx : txX l k = off) (hj : ∀ j, j < k → txX l j ≠ off) : txAt l off = some k := by
  rcases e : txAt l off with _ | i
  · exact absurd hx (txAt_nobody e k h)
  · obtain ⟨h1, h2, _, _, h5⟩ := txAt_some e
    rcases Nat.lt_trichotomy i k with hlt | heq | hgt
    · exact absurd h2 (hj i hlt)
    · rw [heq]
    · exact absurd hx (h5 k hgt)
theorem txAt_not {l : List (Nat × Nat)} {off : Nat} (hj : ∀ j, j < l.length → txX l j ≠ off) : txAt l off = none := by
  rcases e : txAt l off with _ | i
  · rfl
  · obtain ⟨h1, h2, _⟩ := txAt_some e
    exact absurd h2 (hj i h1)
set_option maxHeartbeats 400000 in
theorem rat_any {w : World} {base : Nat} {wv pv : Value} {l : List (Nat × Nat)} (h : OwnP w base pv l) (hl : l.length ≤ 1000000) (off : Nat) (ho : off < 18446744073709551616) (r : Int) (hr : r = match txAt l off with | some i => (i : Int) | none => -1) :
    Calls Tryz.prog 87 #[.agg #[wv, pv], .int .u64 off] w fun e w' => e = .returned (.int .i64 r) ∧ w.grownBy w' none := by
  obtain ⟨pa, pc, pg, hpv, hpa, hpc⟩ := h.addr
  have hpc' := fun w' (hg : w.grownBy w' none) => hpc w' (h.later hg)
  clear hpc h
  subst hpv
  have HPA := Lib.hid hpa
  have HR := Lib.hid hr
  clear hpa hr
  have hg0 : w.grownBy (w.alloc (.cells #[wv, .slice pa l.length pc] 54)) none := World.grownBy_alloc _ _ _
  go_enter Tryz.func87, Tryz.ntmps87
  go_wp2
  go_loop [5] (fun i => ∃ k : Nat, k ≤ l.length ∧ i = .int .i64 k ∧ Hid (∀ j, j < k → txX l j ≠ off)) (fun i => l.length - (intOf i).toNat)
  case atStart => exact ⟨0, Nat.zero_le _, rfl, Lib.hid (fun j hj => absurd hj (Nat.not_lt_zero _))⟩
  case round =>
    obtain ⟨k, hk, rfl, HJ⟩ := hrel
    rcases Nat.lt_or_ge k l.length with h1 | h1
    · obtain ⟨c1, c2⟩ := hpc' _ hg0 k h1
      have ea := HPA.out (by omega)
      subst ea
      by_cases hx : txX l k = off
      · have e1 : ((txX l k : Int) == (off : Int)) = true := by rw [beq_iff_eq]; omega
        have HX := Lib.hid hx
        clear hx
        go_wp2
        go_ret
        refine ⟨ret_int' ?_, hg0⟩
        rw [HR.out, txAt_is h1 HX.out HJ.out]
      · have e1 : ((txX l k : Int) == (off : Int)) = false := by rw [beq_eq_false_iff_ne]; omega
        have HX := Lib.hid hx
        clear hx
        go_wp2
        go_round
        case rel =>
          refine ⟨k + 1, by omega, by go_num, Lib.hid fun j hj => ?_⟩
          rcases Nat.lt_or_ge j k with h' | h'
          · exact HJ.out j h'
          · rw [show j = k by omega]; exact HX.out
        case measure => simp [intOf]; omega
    · obtain rfl : k = l.length := by omega
      go_wp2
      go_ret
      refine ⟨ret_int' ?_, hg0⟩
      rw [HR.out, txAt_not HJ.out]
/-- Words that are thought of, as the plain answer has them: a value of two rows. -/
structure RTx (w : World) (base : Nat) (wv pv : Value) (ws : List Nat) (l : List (Nat × Nat)) : Prop where
  words : OwnW w base wv ws
  puts : OwnP w base pv l
theorem RTx.later {w w' : World} {base : Nat} {wv pv : Value} {ws : List Nat} {l : List (Nat × Nat)} (h : RTx w base wv pv ws l) (hg : w.grownBy w' none) : RTx w' base wv pv ws l := ⟨h.words.later hg, h.puts.later hg⟩
end Go.Proofs.YtoamlkljfmgomaaGreat

/-
  The contract of the plain answer Store of layer 3: a value of its own that thinks of the word, or what came in.
  Conditions: the words, and the pairs, are rows of the call's own, or nil; the numbers are of 64 bits.
-/
namespace Go.Proofs.YtoamlkljfmgomaaGreat
open Go.RowKit
set_option linter.unusedVariables false
set_option linter.unusedSimpArgs false

/-- 'append([]api.Put{}, p...)': a row of its own that holds the same pairs. -/
theorem wpList_append_pairs {w : World} {base : Nat} {l : List (Nat × Nat)} {pv : Value} (hw : OwnP w base pv l) (hm : l.length ≤ 1000000)
    {ops : Array Oper} {rest : List Oper} {o : Oper} {a : Act} {Q : Exit → Act → World → Prop} (hgd : o.guard = none) (s x : Operand)
    (ho : o.op = .call { callee := .builtin .append, args := #[s, x], argTypes := #[52, 52] })
    (hs : a.eval s = .slice (some ⟨w.heap.size, 0, none⟩) 0 0) (hx : a.eval x = pv)
    (h : ∀ g cp w', w.grownBy w' none → w.heap.size ≤ g → OwnP w' w.heap.size (.slice (some ⟨g, 0, none⟩) l.length cp) l → wpList Tryz.prog ops Q rest (a.put o.dst (.slice (some ⟨g, 0, none⟩) l.length cp)) w') :
    wpList Tryz.prog ops Q (o :: rest) a (w.alloc (.cells #[] 58)) := by
  obtain ⟨i0, hi, hz0, hz1, hz2⟩ := info_parts info_put
  have hown0 : (w.alloc (.cells #[] 58)).ownsRow w.heap.size 58 2 (.slice (some ⟨w.heap.size, 0, none⟩) 0 0) 0 [] := World.ownsRow_lit (base := w.heap.size) (e := 58) (size := 2) w #[] 0 (Nat.le_refl _) (by decide) rfl
  have ha : w.grownBy (w.alloc (.cells #[] 58)) none := World.grownBy_alloc _ _ _
  rcases hw.2 with ⟨rfl, h0⟩ | ⟨g0, c0, cur, rfl, _⟩
  · have hl : l = [] := List.eq_nil_of_length_eq_zero h0
    subst hl
    refine wpList_append_own_none hgd s x 52 ho w.heap.size 58 i0 2 Tryz.underlying52 hi _ 0 [] hs hown0 hx ?_
    exact h w.heap.size 0 _ ha (Nat.le_refl _) hown0
  · have hsrc : ∀ j u, (cellsP l)[j]? = some u → (w.alloc (.cells #[] 58)).cell? ((⟨g0, 0, none⟩ : Addr).add j) = some u := World.ownsRow.cells (World.ownsRow.alloc hw _) rfl
    refine wpList_append_own _ hgd s x 52 ho w.heap.size 58 i0 (.agg #[.int .u64 0, .int .u64 0]) 2 16 Tryz.underlying52 hi hz0 hz1 hz2 rfl (by decide) _ 0 [] hs hown0 ⟨g0, 0, none⟩ l.length c0 (cellsP l) hx (cellsP_len l) hsrc (cellsP_one l) (by unfold maxLen; omega) (by omega) (by rw [World.size_alloc]; omega) ?_
    intro v' w1 hown hgrow hnil
    rw [Nat.zero_add, List.nil_append] at hown
    have hg1 : w.grownBy w1 none := grown_new (grown_trans (grown_any ha _) hgrow) (Nat.le_refl _)
    rcases hown.2 with ⟨hv, _⟩ | ⟨g, cp, cur', rfl, hgb, _⟩
    · exact absurd (hnil.1 hv).1 (by simp)
    · exact h g cp w1 hg1 hgb hown
/-- 'append(p, api.Put{..})': a pair more. -/
theorem wpList_append_pair {w2 : World} {base : Nat} {l : List (Nat × Nat)} {v : Value} (hown : OwnP w2 base v l) (hn : l.length ≤ 1000000) (hbase : base ≤ w2.heap.size) (y z : Nat)
    {ops : Array Oper} {rest : List Oper} {o : Oper} {a : Act} {Q : Exit → Act → World → Prop} (hgd : o.guard = none) (s x : Operand)
    (ho : o.op = .call { callee := .builtin .append, args := #[s, x], argTypes := #[52, 52] })
    (hs : a.eval s = v) (hx : a.eval x = .slice (some ⟨w2.heap.size, 0, none⟩) 1 1)
    (h : ∀ g cp w', OwnP w' base (.slice (some ⟨g, 0, none⟩) (l.length + 1) cp) (l ++ [(y, z)]) → w2.grownBy w' v.ownBlock → (v.ownBlock = some g ∨ g = w2.heap.size + 1) → wpList Tryz.prog ops Q rest (a.put o.dst (.slice (some ⟨g, 0, none⟩) (l.length + 1) cp)) w') :
    wpList Tryz.prog ops Q (o :: rest) a (w2.alloc (.cells #[.int .u64 y, .int .u64 z] 58)) := by
  obtain ⟨i0, hi, hz0, hz1, hz2⟩ := info_parts info_put
  refine wpList_append_own_at _ hgd s x 52 ho base 58 i0 (.agg #[.int .u64 0, .int .u64 0]) 2 16 Tryz.underlying52 hi hz0 hz1 hz2 rfl (by decide) v l.length (cellsP l) hs (World.ownsRow.alloc hown _) ⟨w2.heap.size, 0, none⟩ 1 1 [.int .u64 y, .int .u64 z] hx rfl (cells_two_new _ _ _ _) (by simp [Value.oneCell']) (by unfold maxLen; omega) (by omega) (by rw [World.size_alloc]; omega) fun v' w' h1 h2 _ h4 => ?_
  obtain ⟨g, cp, rfl⟩ := ownsRow_succ h1
  refine h g cp w' ?_ (grown_trans (World.grownBy_alloc _ _ _) h2) ?_
  · unfold OwnP
    rw [cellsP_app, List.length_append]
    exact h1
  · rw [World.size_alloc] at h4
    rcases h4 with h4 | h4
    · exact .inl h4.symm
    · right; injection h4
theorem cellsP_set (l : List (Nat × Nat)) (i y z : Nat) : ((cellsP l).set (i * 2) (.int .u64 (y : Nat))).set (i * 2 + 1) (.int .u64 (z : Nat)) = cellsP (l.set i (y, z)) := by
  induction l generalizing i with
  | nil => rfl
  | cons p r ih =>
    have e : ∀ (q : Nat × Nat) (r : List (Nat × Nat)), cellsP (q :: r) = .int .u64 (q.1 : Nat) :: .int .u64 (q.2 : Nat) :: cellsP r := fun _ _ => rfl
    rcases i with _ | i
    · rw [e, List.set_cons_zero]; rfl
    · rw [show (i + 1) * 2 = i * 2 + 1 + 1 by omega, e]
      simp only [List.set_cons_succ]
      rw [ih i]
      rfl
/-- 'p[i] = api.Put{..}' into a row of the call's own. -/
theorem OwnP.stored {w : World} {base g c : Nat} {l : List (Nat × Nat)} (h : OwnP w base (.slice (some ⟨g, 0, none⟩) l.length c) l) (i y z : Nat) :
    OwnP ((w.setCell ⟨g, i * 2, none⟩ (.int .u64 (y : Nat))).setCell ⟨g, i * 2 + 1, none⟩ (.int .u64 (z : Nat))) base (.slice (some ⟨g, 0, none⟩) l.length c) (l.set i (y, z)) ∧
    w.grownBy ((w.setCell ⟨g, i * 2, none⟩ (.int .u64 (y : Nat))).setCell ⟨g, i * 2 + 1, none⟩ (.int .u64 (z : Nat))) (some g) := by
  have h1 := World.ownsRow.stored h (i * 2) (.int .u64 (y : Nat))
  have h2 := World.ownsRow.stored h1.1 (i * 2 + 1) (.int .u64 (z : Nat))
  refine ⟨?_, grown_trans h1.2 h2.2⟩
  unfold OwnP
  rw [List.length_set, ← cellsP_set]
  exact h2.1
theorem txStore_len (ws : List Nat) (l : List (Nat × Nat)) (off v : Nat) : (txStore ws l off v).length ≤ l.length + 1 := by
  unfold txStore
  split
  · rw [txSet_len]; split <;> omega
  · omega
set_option maxHeartbeats 1000000 in
theorem rtxstore_no {w : World} {base : Nat} {wv pv : Value} {ws : List Nat} {l : List (Nat × Nat)} (h : RTx w base wv pv ws l) (hm : ws.length ≤ 131072) (off v : Nat) (ho : off < 18446744073709551616) (hno : ¬ stands ws off) :
    Calls Tryz.prog 48 #[.agg #[wv, pv], .int .u64 off, .int .u64 v] w fun e w' => e = .returned (.agg #[wv, pv]) ∧ w.grownBy w' none := by
  have e1 : errW ws off = 1 := by unfold errW; rw [if_neg hno]
  have hc := fun w' (hg : w.grownBy w' none) => rload_any (h.words.later hg) hm off ho
  rw [e1] at hc
  obtain ⟨wa, wc, wg, hwv, _, _⟩ := OwnW.addr h.words
  subst hwv
  obtain ⟨pa, pc, pg, hpv, hpa, hpc⟩ := h.puts.addr
  subst hpv
  clear e1 h hpa hpc
  go_enter Tryz.func48, Tryz.ntmps48
  have hg0 : w.grownBy ((w.alloc (.cells #[.slice wa ws.length wc, .slice pa l.length pc] 54)).alloc (.cells #[.slice none 0 0, .slice none 0 0] 54)) none := grown_trans (World.grownBy_alloc _ _ _) (World.grownBy_alloc _ _ _)
  go_wp2_with (go_at_call 86; refine (hc _ hg0).mono ?_; rintro e w1 ⟨rfl, rfl⟩)
  refine bodyPost_ret (v := .agg #[.slice wa ws.length wc, .slice pa l.length pc]) (by simp [results, Tryz.results48, go_sem]) rfl ⟨rfl, ?_⟩
  exact grown_trans (World.grownBy_alloc _ _ _) (World.grownBy_alloc _ _ _)
/-- What Store tells: a value of its own. -/
def RStored (w : World) (base : Nat) (wv : Value) (ws : List Nat) (l : List (Nat × Nat)) (e : Ending) (w' : World) : Prop := ∃ pv, e = .returned (.agg #[wv, pv]) ∧ RTx w' base wv pv ws l ∧ w.grownBy w' none
theorem rstored_end {w W0 w2 w3 : World} {base g g' b6 n cp : Nat} {wv : Value} {ws : List Nat} {l : List (Nat × Nat)} (hg0 : w.grownBy W0 none) (hb6 : w.heap.size ≤ b6) (hg : W0.heap.size ≤ g) (hne : b6 < W0.heap.size) (hbase : base ≤ w.heap.size) (hw : OwnW w base wv ws)
    (hg2 : W0.grownBy w2 none) (hg3 : w2.grownBy w3 (some g')) (hg' : W0.heap.size ≤ g') (hp : OwnP w3 W0.heap.size (.slice (some ⟨g, 0, none⟩) n cp) l) (u v : Value) :
    RTx ((w3.setCell ⟨b6, 0, none⟩ u).setCell ⟨b6, 1, none⟩ v) base wv (.slice (some ⟨g, 0, none⟩) n cp) ws l ∧ w.grownBy ((w3.setCell ⟨b6, 0, none⟩ u).setCell ⟨b6, 1, none⟩ v) none := by
  have hs : w3.grownBy ((w3.setCell ⟨b6, 0, none⟩ u).setCell ⟨b6, 1, none⟩ v) (some b6) := grown_trans (grown_set _ _ _ _) (grown_set _ _ _ _)
  have h3 : w.grownBy w3 none := grown_step (grown_trans hg0 hg2) hg3 (fun i hi => .inl (by injection hi with hi; have := hg0.size; omega))
  have h4 : w.grownBy ((w3.setCell ⟨b6, 0, none⟩ u).setCell ⟨b6, 1, none⟩ v) none := grown_step h3 hs (fun i hi => .inl (by injection hi with hi; omega))
  refine ⟨⟨hw.later h4, ?_⟩, h4⟩
  refine World.ownsRow.mono (World.ownsRow.kept hp hs (.inr ?_)) (Nat.le_trans hbase hg0.size)
  intro e
  simp only [Value.ownBlock] at e
  injection e with e
  omega
set_option maxHeartbeats 1000000 in
theorem rtxstore_old {w : World} {base : Nat} {wv pv : Value} {ws : List Nat} {l : List (Nat × Nat)} (h : RTx w base wv pv ws l) (hbase : base ≤ w.heap.size) (hm : ws.length ≤ 131072) (hl : l.length ≤ 1000000) (off v : Nat) (ho : off < 18446744073709551616) (hs : stands ws off) (i : Nat) (hi : txAt l off = some i) :
    Calls Tryz.prog 48 #[.agg #[wv, pv], .int .u64 off, .int .u64 v] w (RStored w base wv ws (txStore ws l off v)) := by
  have e1 : errW ws off = 0 := by unfold errW; rw [if_pos hs]
  have hc := fun w' (hg : w.grownBy w' none) => rload_any (h.words.later hg) hm off ho
  rw [e1] at hc
  obtain ⟨hil, _, _, hset, _⟩ := txAt_some hi
  have e2 : txStore ws l off v = l.set i (off, v) := by unfold txStore; rw [if_pos hs, hset]
  rw [e2]
  obtain ⟨wa, wc, wg, hwv, _, _⟩ := OwnW.addr h.words
  subst hwv
  obtain ⟨pa, pc, pg, hpv, hpa, hpc⟩ := h.puts.addr
  subst hpv
  have hat := fun (wv : Value) (w' : World) (hg : w.grownBy w' none) => rat_any (wv := wv) (h.puts.later hg) hl off ho (i : Int) (by rw [hi])
  obtain ⟨W0, hW0⟩ : ∃ W0, (w.alloc (.cells #[.slice wa ws.length wc, .slice pa l.length pc] 54)).alloc (.cells #[.slice none 0 0, .slice none 0 0] 54) = W0 := ⟨_, rfl⟩
  have hg0 : w.grownBy W0 none := by rw [← hW0]; exact grown_trans (World.grownBy_alloc _ _ _) (World.grownBy_alloc _ _ _)
  have hb3 : W0.heap[w.heap.size]? = some (.cells #[.slice wa ws.length wc, .slice pa l.length pc] 54 (0, 0)) := by
    rw [← hW0]; exact (Below.heap_alloc _ _ _ (by simp)).trans (heap_alloc_new' w _)
  have hb6 : W0.heap[w.heap.size + 1]? = some (.cells #[.slice none 0 0, .slice none 0 0] 54 (0, 0)) := by
    rw [← hW0]
    have := heap_alloc_new' (w.alloc (.cells #[.slice wa ws.length wc, .slice pa l.length pc] 54)) (.cells #[.slice none 0 0, .slice none 0 0] 54)
    rwa [World.size_alloc] at this
  have hsz := lt_of_block hb6
  have hputs := h.puts.later hg0
  have k30 : W0.cell? ⟨w.heap.size, 0, none⟩ = some (.slice wa ws.length wc) := by simp [World.cell?, hb3]
  have k31 : (W0.alloc (.cells #[] 58)).cell? ⟨w.heap.size, 1, none⟩ = some (.slice pa l.length pc) := by
    have := (Below.heap_alloc W0 (.cells #[] 58) _ (lt_of_block hb3)).trans hb3
    simp [World.cell?, this]
  have HW := Lib.hid hW0
  have HI := Lib.hid hi
  have HB3 := Lib.hid hb3
  have HB6 := Lib.hid hb6
  clear e1 e2 hs hset hpa hpc hi hb3 hb6
  go_enter Tryz.func48, Tryz.ntmps48
  go_wp2_with (first | (go_at_call 86; clear hW0; refine (hc _ hg0).mono ?_; rintro e w1 ⟨rfl, rfl⟩) | (at_builtin; go_must (refine wpList_append_pairs hputs hl rfl _ _ rfl rfl rfl ?_); intro g cp w1 hgrow hgb hown; have hb3 := (hgrow.block _ (lt_of_block HB3.out) (by simp)).trans HB3.out; have c30 : w1.cell? ⟨w.heap.size, 0, none⟩ = some (.slice wa ws.length wc) := (by simp [World.cell?, hb3]); have c31 : w1.cell? ⟨w.heap.size, 1, none⟩ = some (.slice pa l.length pc) := (by simp [World.cell?, hb3]); clear hb3) | (go_at_call 87; refine (hat _ _ (grown_trans hg0 hgrow)).mono ?_; rintro e w2 ⟨rfl, hg2⟩; have hown2 := hown.later hg2; obtain ⟨e0, e1⟩ := cellsP_at l i hil; have q0 := (World.ownsRow.cellAt hown2 (i * 2) (by omega)).trans e0; have q1 := (World.ownsRow.cellAt hown2 (i * 2 + 1) (by omega)).trans e1; have r0 := World.ownsRow.frozenAt hown2 (i * 2); have r1 := World.ownsRow.frozenAt hown2 (i * 2 + 1); have hgg := grown_trans hgrow hg2; have hb3 := (hgg.block _ (lt_of_block HB3.out) (by simp)).trans HB3.out; have hb6 := (hgg.block _ (lt_of_block HB6.out) (by simp)).trans HB6.out; have d30 : w2.cell? ⟨w.heap.size, 0, none⟩ = some (.slice wa ws.length wc) := (by simp [World.cell?, hb3]); have d60 : w2.cell? ⟨w.heap.size + 1, 0, none⟩ = some (.slice none 0 0) := (by simp [World.cell?, hb6]); have d61 : w2.cell? ⟨w.heap.size + 1, 1, none⟩ = some (.slice none 0 0) := (by simp [World.cell?, hb6]); have f60 : w2.frozen? ⟨w.heap.size + 1, 0, none⟩ = false := (by simp [World.frozen?, hb6]); have f61 : w2.frozen? ⟨w.heap.size + 1, 1, none⟩ = false := (by simp [World.frozen?, hb6]); have n3 : ¬ g = w.heap.size := (by omega); have n3' : ¬ w.heap.size = g := (by omega); have n6 : ¬ g = w.heap.size + 1 := (by omega); have n6' : ¬ w.heap.size + 1 = g := (by omega); have HO := Lib.hid hown2; clear hb3 hb6 e0 e1 hown2 c30 c31 k30 k31))
  obtain ⟨hp3, hg3⟩ := OwnP.stored HO.out i off v
  obtain ⟨q1, q2⟩ := rstored_end hg0 (by omega : w.heap.size ≤ w.heap.size + 1) hgb hsz hbase h.words hgg hg3 hgb hp3 (.slice wa ws.length wc) (.slice (some ⟨g, 0, none⟩) l.length cp)
  refine bodyPost_ret (v := .agg #[.slice wa ws.length wc, .slice (some ⟨g, 0, none⟩) l.length cp]) (by simp [results, Tryz.results48, go_sem, d60, d61, n6, n6']) rfl ⟨_, rfl, q1, q2⟩
set_option maxHeartbeats 1000000 in
theorem rtxstore_new {w : World} {base : Nat} {wv pv : Value} {ws : List Nat} {l : List (Nat × Nat)} (h : RTx w base wv pv ws l) (hbase : base ≤ w.heap.size) (hm : ws.length ≤ 131072) (hl : l.length ≤ 1000000) (off v : Nat) (ho : off < 18446744073709551616) (hs : stands ws off) (hi : txAt l off = none) :
    Calls Tryz.prog 48 #[.agg #[wv, pv], .int .u64 off, .int .u64 v] w (RStored w base wv ws (txStore ws l off v)) := by
  have e1 : errW ws off = 0 := by unfold errW; rw [if_pos hs]
  have hc := fun w' (hg : w.grownBy w' none) => rload_any (h.words.later hg) hm off ho
  rw [e1] at hc
  have e2 : txStore ws l off v = l ++ [(off, v)] := by unfold txStore; rw [if_pos hs, txSet_new v (txAt_none.1 hi)]
  rw [e2]
  obtain ⟨wa, wc, wg, hwv, _, _⟩ := OwnW.addr h.words
  subst hwv
  obtain ⟨pa, pc, pg, hpv, hpa, hpc⟩ := h.puts.addr
  subst hpv
  have hat := fun (wv : Value) (w' : World) (hg : w.grownBy w' none) => rat_any (wv := wv) (h.puts.later hg) hl off ho (-1) (by rw [hi])
  obtain ⟨W0, hW0⟩ : ∃ W0, (w.alloc (.cells #[.slice wa ws.length wc, .slice pa l.length pc] 54)).alloc (.cells #[.slice none 0 0, .slice none 0 0] 54) = W0 := ⟨_, rfl⟩
  have hg0 : w.grownBy W0 none := by rw [← hW0]; exact grown_trans (World.grownBy_alloc _ _ _) (World.grownBy_alloc _ _ _)
  have hb3 : W0.heap[w.heap.size]? = some (.cells #[.slice wa ws.length wc, .slice pa l.length pc] 54 (0, 0)) := by
    rw [← hW0]; exact (Below.heap_alloc _ _ _ (by simp)).trans (heap_alloc_new' w _)
  have hb6 : W0.heap[w.heap.size + 1]? = some (.cells #[.slice none 0 0, .slice none 0 0] 54 (0, 0)) := by
    rw [← hW0]
    have := heap_alloc_new' (w.alloc (.cells #[.slice wa ws.length wc, .slice pa l.length pc] 54)) (.cells #[.slice none 0 0, .slice none 0 0] 54)
    rwa [World.size_alloc] at this
  have hsz := lt_of_block hb6
  have hputs := h.puts.later hg0
  have k30 : W0.cell? ⟨w.heap.size, 0, none⟩ = some (.slice wa ws.length wc) := by simp [World.cell?, hb3]
  have k31 : (W0.alloc (.cells #[] 58)).cell? ⟨w.heap.size, 1, none⟩ = some (.slice pa l.length pc) := by
    have := (Below.heap_alloc W0 (.cells #[] 58) _ (lt_of_block hb3)).trans hb3
    simp [World.cell?, this]
  have HI := Lib.hid hi
  have HB3 := Lib.hid hb3
  have HB6 := Lib.hid hb6
  clear e1 e2 hs hpa hpc hi hb3 hb6
  go_enter Tryz.func48, Tryz.ntmps48
  go_wp2_with (first | (go_at_call 86; clear hW0; refine (hc _ hg0).mono ?_; rintro e w1 ⟨rfl, rfl⟩) | (at_builtin; refine wpList_append_pairs hputs hl rfl _ _ rfl rfl rfl ?_; intro g cp w1 hgrow hgb hown; have hb3 := (hgrow.block _ (lt_of_block HB3.out) (by simp)).trans HB3.out; have c30 : w1.cell? ⟨w.heap.size, 0, none⟩ = some (.slice wa ws.length wc) := (by simp [World.cell?, hb3]); have c31 : w1.cell? ⟨w.heap.size, 1, none⟩ = some (.slice pa l.length pc) := (by simp [World.cell?, hb3]); clear hb3) | (go_at_call 87; refine (hat _ _ (grown_trans hg0 hgrow)).mono ?_; rintro e w2 ⟨rfl, hg2⟩; have hown2 := hown.later hg2; have hgg := grown_trans hgrow hg2) | (at_builtin; go_must (refine wpList_append_pair hown2 hl hgg.size off v rfl _ _ rfl rfl rfl ?_); intro g3 cp3 w3 hown3 hg3 hloc; have hn6 : some g ≠ some (w.heap.size + 1) := (by intro e; injection e; omega); have hn3 : some g ≠ some (w.heap.size) := (by intro e; injection e; omega); have hb3 := (hg3.block _ (lt_of_block ((hgg.block _ (lt_of_block HB3.out) (by simp)).trans HB3.out)) hn3.symm).trans ((hgg.block _ (lt_of_block HB3.out) (by simp)).trans HB3.out); have hb6 := (hg3.block _ (lt_of_block ((hgg.block _ (lt_of_block HB6.out) (by simp)).trans HB6.out)) hn6.symm).trans ((hgg.block _ (lt_of_block HB6.out) (by simp)).trans HB6.out); have d30 : w3.cell? ⟨w.heap.size, 0, none⟩ = some (.slice wa ws.length wc) := (by simp [World.cell?, hb3]); have d60 : w3.cell? ⟨w.heap.size + 1, 0, none⟩ = some (.slice none 0 0) := (by simp [World.cell?, hb6]); have d61 : w3.cell? ⟨w.heap.size + 1, 1, none⟩ = some (.slice none 0 0) := (by simp [World.cell?, hb6]); have f60 : w3.frozen? ⟨w.heap.size + 1, 0, none⟩ = false := (by simp [World.frozen?, hb6]); have f61 : w3.frozen? ⟨w.heap.size + 1, 1, none⟩ = false := (by simp [World.frozen?, hb6]); clear hb3 hb6 hn3 hn6))
  have hgb3 := (row_block hown3 (g := g3) rfl).1
  have n6 : ¬ g3 = w.heap.size + 1 := by omega
  have n6' : ¬ w.heap.size + 1 = g3 := by omega
  have hp3 : OwnP w3 W0.heap.size (.slice (some ⟨g3, 0, none⟩) (l.length + 1) cp3) (l ++ [(off, v)]) := hown3
  obtain ⟨q1, q2⟩ := rstored_end hg0 (by omega : w.heap.size ≤ w.heap.size + 1) hgb3 hsz hbase h.words hgg hg3 hgb hp3 (.slice wa ws.length wc) (.slice (some ⟨g3, 0, none⟩) (l.length + 1) cp3)
  refine bodyPost_ret (v := .agg #[.slice wa ws.length wc, .slice (some ⟨g3, 0, none⟩) (l.length + 1) cp3]) (by simp [results, Tryz.results48, go_sem, d60, d61]) rfl ⟨_, rfl, q1, q2⟩
theorem rtxstore_any {w : World} {base : Nat} {wv pv : Value} {ws : List Nat} {l : List (Nat × Nat)} (h : RTx w base wv pv ws l) (hbase : base ≤ w.heap.size) (hm : ws.length ≤ 131072) (hl : l.length ≤ 1000000) (off v : Nat) (ho : off < 18446744073709551616) :
    Calls Tryz.prog 48 #[.agg #[wv, pv], .int .u64 off, .int .u64 v] w (RStored w base wv ws (txStore ws l off v)) := by
  by_cases hs : stands ws off
  · rcases e : txAt l off with _ | i
    · exact rtxstore_new h hbase hm hl off v ho hs e
    · exact rtxstore_old h hbase hm hl off v ho hs i e
  · refine (rtxstore_no h hm off v ho hs).mono ?_
    rintro e w' ⟨rfl, hg⟩
    refine ⟨pv, rfl, ?_, hg⟩
    have e2 : txStore ws l off v = l := by unfold txStore; rw [if_neg hs]
    rw [e2]
    exact h.later hg
end Go.Proofs.YtoamlkljfmgomaaGreat

/-
  A region that draws its order, in a round of a loop over a function: reads ahead, and a call, or a store, at its end: one walk serves every order. No function of the program.
  No condition.
-/
namespace Go.Proofs.YtoamlkljfmgomaaGreat
open Go
set_option linter.unusedVariables false
set_option linter.unusedSimpArgs false

section
variable {P : Program} {md : Region.Mode} {ops : Array Oper} {w : World} {l₀ m : Nat}
/-- no deferred call is told of among these -/
def noDefer (l : List Oper) : Bool := l.all fun o => match o.op with
  | .defer _ => false
  | _ => true
theorem noDefer_at {l : List Oper} (h : noDefer l = true) {i : Nat} {o : Oper} (ho : l[i]? = some o) : ∀ c, o.op ≠ .defer c := by
  intro c e
  have := List.all_eq_true.1 h o (List.mem_of_getElem? ho)
  rw [e] at this
  cases this
theorem wpOpIn_of_stOp {i : Nat} {a : Act} {K : Act → Prop} {K' : Act → World → Prop} {Q' : Exit → Act → World → Prop} (hd : ∀ o, ops[i]? = some o → ∀ c, o.op ≠ .defer c) (h : ∀ a, K a → K' a w) (hh : stOp P ops w i K a) :
    wpOpIn (Fence.wide.inRound l₀) m P ops Q' i K' a w := by
  unfold stOp at hh
  unfold wpOpIn
  split
  · rename_i ho; simp only [ho] at hh; exact h _ hh
  · rename_i o ho
    simp only [ho] at hh
    split
    · rename_i hw
      simp only [hw, if_true] at hh
      unfold Oper.still at hh
      refine ⟨fun _ _ => trivial, ?_⟩
      have e : (o.semAt (Fence.wide.inRound l₀).round a.eval) = execOp a.eval o := Oper.semAt_some l₀ a.eval o (hd o ho)
      rw [e]
      generalize (execOp a.eval o).run P w = r at *
      cases r with
      | ok n w' =>
        cases n <;> simp only [Oper.stillUpon, Oper.uponIn] at hh ⊢
        case value v => obtain ⟨rfl, h1⟩ := hh; exact h _ h1
        case skip => obtain ⟨rfl, h1⟩ := hh; exact h _ h1
        case enter f args =>
          obtain ⟨rfl, v, hc, hn⟩ := hh
          refine ⟨(fun h => by cases h), ?_⟩
          refine CallsIn.inRound l₀ (callsIn_wide.2 (hc.mono ?_))
          rintro e w'' ⟨rfl, rfl⟩
          exact h _ hn
      | halt x w' => simp only [Oper.stillUpon] at hh
    · rename_i hw; simp only [hw] at hh; exact ⟨fun _ _ => trivial, h _ hh⟩
theorem wpAnyIn_of_head {n g : Nat} {L : Array Bool → Act → Prop} {Q' : Exit → Act → World → Prop} (hd : ∀ (i : Nat) (o : Oper), ops[i]? = some o → ∀ c, o.op ≠ .defer c) (hL : ∀ listed a, L listed a → wpAnyIn (Fence.wide.inRound l₀) m P md ops Q' g listed a w) :
    ∀ (f : Nat) (listed : Array Bool) (a : Act), wpAnyL P md ops w n L f listed a → wpAnyIn (Fence.wide.inRound l₀) m P md ops Q' (f + g) listed a w
  | 0, listed, a, h => by rw [Nat.zero_add]; exact hL _ _ h
  | f + 1, listed, a, h => by
    rw [show f + 1 + g = (f + g) + 1 by omega]
    exact ⟨fun h0 => absurd h0 h.1, fun i hi => wpOpIn_of_stOp (hd i) (fun a' h' => wpAnyIn_of_head hd hL f _ a' h') (h.2 i hi).2⟩
theorem wpAnyIn_of_seq {Q' : Exit → Act → World → Prop} : ∀ (l : List Oper) (k : Nat) (listed : Array Bool) (a : Act) (w : World), (∀ j, l[j]? = ops[k + j]?) →
    Region.seqB md ops l.length k listed = true → wpListIn (Fence.wide.inRound l₀) m P ops Q' l a w → wpAnyIn (Fence.wide.inRound l₀) m P md ops Q' l.length listed a w
  | [], _, _, _, _, _, hB, h => ⟨by simpa [Region.seqB] using hB, h⟩
  | o :: l, k, listed, a, w, hl, hB, h => by
    have h0 : ops[k]? = some o := by simpa using (hl 0).symm
    simp only [List.length_cons, Region.seqB, Bool.and_eq_true, decide_eq_true_eq] at hB
    refine ⟨fun h1 => (by rw [hB.1] at h1; cases h1), fun i hi => ?_⟩
    rw [hB.1] at hi
    have hik : i = k := by simpa using hi
    subst hik
    have hw : wpOpIn (Fence.wide.inRound l₀) m P ops Q' i (wpListIn (Fence.wide.inRound l₀) m P ops Q' l) a w := by unfold wpOpIn; simp only [h0]; exact h
    exact wpOpIn_mono (fun a' w' h' => wpAnyIn_of_seq l (i + 1) _ a' w' (fun j => by have := hl (j + 1); simpa [Nat.add_assoc, Nat.add_comm 1 j] using this) hB.2 h') hw
theorem wpIn_region_still_tail {id : Nat} {Q : Exit → Act → World → Prop} {a : Act} {w : World} {l : List Oper} (n : Nat) (hm : P.follows .mixedOrders = true) (hB : Region.lexTailB .any l.toArray n = true) (hd : noDefer l = true)
    (h : wpStill P l.toArray w.drew (fun a' => wpListIn (Fence.wide.inRound l₀) m P l.toArray Q (l.drop n) a' w.drew) (l.take n) a) : (Code.region id l.toArray true).wpIn (Fence.wide.inRound l₀) m P Q a w := by
  simp only [Region.lexTailB, Bool.and_eq_true, decide_eq_true_eq] at hB
  obtain ⟨⟨⟨⟨hsel, hn⟩, hs⟩, hc⟩, hlex⟩ := hB
  have hn' : n < l.length := by simpa using hn
  have htl : (l.take n).length = n := by simp; omega
  have hdl : (l.drop n).length = l.toArray.size - n := by simp
  have inv0 : HeadInv .any l.toArray n (Array.replicate l.toArray.size false) :=
    ⟨by simp, fun j oj _ hl => (by rw [getD_replicate_false] at hl; cases hl), fun t _ ht => getD_in (by simpa using ht) (getD_replicate_false _ _)⟩
  have H := wpAnyL_lex (md := .any) (g := l.toArray.size - n) hsel hs hc hn (l.take n) 0 _ a (fun j hj => by
    have hj' : j < n := by rw [htl] at hj; exact hj
    simp [hj']) (by simpa using htl) inv0 (by rw [htl]; exact hlex) h
  refine wpIn_region_any hm ?_
  have hd' : ∀ (i : Nat) (o : Oper), l.toArray[i]? = some o → ∀ c, o.op ≠ .defer c := fun i o ho => noDefer_at hd (by simpa using ho)
  have := wpAnyIn_of_head (Q' := Q) (l₀ := l₀) (m := m) (g := l.toArray.size - n) hd' (fun listed a' hL => by
    have := wpAnyIn_of_seq (md := .any) (Q' := Q) (l₀ := l₀) (m := m) (l.drop n) n listed a' w.drew (fun j => by simp [List.getElem?_drop]) (by rw [hdl]; exact hL.1) hL.2
    rwa [hdl] at this) _ _ _ H
  rw [htl, show n + (l.toArray.size - n) = l.toArray.size by omega] at this
  exact this
end
end Go.Proofs.YtoamlkljfmgomaaGreat

/-
  Package tx: the contract of Apply: all that is thought of is stored in the segment, in turn; nothing else turns.
  Conditions: the Tx is nil, or stands in memory.
-/
namespace Go.Proofs.YtoamlkljfmgomaaGreat
open Go.RowKit Go.Shelf
set_option linter.unusedVariables false
set_option linter.unusedSimpArgs false
attribute [local go_sem] Oper.semAt_some

/-- words, with the pairs of these places stored -/
def applyI (ws : List Nat) (l : List (Nat × Nat)) (ks : List Nat) : List Nat := ks.foldl (fun ws k => put ws (txX l k) (txV l k)) ws
theorem applyI_snoc (ws : List Nat) (l : List (Nat × Nat)) (ks : List Nat) (k : Nat) : applyI ws l (ks ++ [k]) = put (applyI ws l ks) (txX l k) (txV l k) := by
  simp [applyI, List.foldl_append]
theorem applyI_len (ws : List Nat) (l : List (Nat × Nat)) (ks : List Nat) : (applyI ws l ks).length = ws.length := by
  induction ks generalizing ws with
  | nil => rfl
  | cons k r ih =>
    show (applyI (put ws (txX l k) (txV l k)) l r).length = _
    rw [ih, put_len]
theorem applyI_all (ws : List Nat) (l : List (Nat × Nat)) : applyI ws l (List.range l.length) = txApply ws l := by
  unfold applyI txApply
  have h : l = (List.range l.length).map (fun k => l.getD k (0, 0)) := by
    apply List.ext_getElem
    · simp
    · intro i h1 h2
      simp [List.getD_eq_getElem?_getD, List.getElem?_eq_getElem h1]
  have e : l.foldl (fun ws p => put ws p.1 p.2) ws = ((List.range l.length).map (fun k => l.getD k (0, 0))).foldl (fun ws p => put ws p.1 p.2) ws := congrArg (fun m => List.foldl (fun ws (p : Nat × Nat) => put ws p.1 p.2) ws m) h
  rw [e, List.foldl_map]
  rfl
/-- What holds between two rounds: the segment has the words of these places, and nothing but its bytes has turned. -/
structure ApplyI (w : World) (b0 T B D : Nat) (ws : List Nat) (W : World) : Prop where
  seg : IsSeg W B D ws
  grown : w.grownBy W (some D)
  big : b0 + 2 ≤ W.heap.size
  box : W.heap[b0]? = some (.cells #[.pointer (some ⟨T, 0, none⟩)] 25 (0, 0))
theorem ApplyI.own (w : World) (n b0 T B D : Nat) (f : List Nat → List Nat) (hn : w.heap.size ≤ n) : OwnFrom n (fun (pre : List Nat) W => ApplyI w b0 T B D (f pre) W) := fun s X Y row hs hg hr => by
  have hc : ∀ {b : Nat} {c : Array Value} {t : TypeId} {fr : Nat × Nat}, X.heap[b]? = some (.cells c t fr) → row ≠ some b := fun h e => by
    obtain ⟨_, o, ho, hc⟩ := hr _ e
    rw [h] at ho; cases ho; cases hc
  refine ⟨hs.seg.kept hg (hc hs.seg.head) (hc hs.seg.data), grown_step hs.grown hg (fun i hi => .inl (Nat.le_trans hn (hr i hi).1)), Nat.le_trans hs.big hg.size, ?_⟩
  exact (hg.block b0 (lt_of_block hs.box) (fun e => hc hs.box e.symm)).trans hs.box

section
variable {w : World} {T M : Nat} {R : Option Nat} {B D : Nat} {ws : List Nat} {l : List (Nat × Nat)}
end
end Go.Proofs.YtoamlkljfmgomaaGreat

/-
  The contracts of the plain answers Apply and Same of layer 3.
  Conditions: the words, and the pairs, are rows of the call's own, or nil.
-/
namespace Go.Proofs.YtoamlkljfmgomaaGreat
open Go.RowKit
set_option linter.unusedVariables false
set_option linter.unusedSimpArgs false

theorem applyI_step (ws : List Nat) (l : List (Nat × Nat)) (k : Nat) : applyI ws l (List.range (k + 1)) = put (applyI ws l (List.range k)) (txX l k) (txV l k) := by
  rw [List.range_succ, applyI_snoc]
end Go.Proofs.YtoamlkljfmgomaaGreat

/-
  What all statements of layer 3 ask first (awake) is true; what stands behind 'filled'; all words of a segment.
  Conditions: the pairs lie in memory.
-/
namespace Go.Proofs.YtoamlkljfmgomaaGreat
open Go.RowKit
set_option linter.unusedVariables false
set_option linter.unusedSimpArgs false

/-- What filled has made: a segment of the call's own, and the plain answer's words. -/
def Filled3 (w : World) (ws : List Nat) (e : Ending) (w' : World) : Prop :=
  ∃ B D wv, e = .returned (.tuple #[.pointer (some ⟨B, 0, none⟩), wv]) ∧ FillRel w (.pointer (some ⟨B, 0, none⟩)) wv ws w' ∧ IsSeg w' B D ws ∧ w.heap.size ≤ B ∧ w.heap.size ≤ D
theorem new80 (w : World) : Calls Tryz.prog 44 #[.int .u64 80] w fun e w' => e = .returned (.pointer (some ⟨w.heap.size + 1, 0, none⟩)) ∧ w.grownBy w' none ∧ IsSeg w' (w.heap.size + 1) w.heap.size (List.replicate 10 0) := new_yes 10 (by decide) (by decide) w
theorem rnew80 (w : World) : Calls Tryz.prog 83 #[.int .u64 80] w fun e w' => e = .returned (.slice (some ⟨w.heap.size, 0, none⟩) 10 10) ∧ w.grownBy w' none ∧ OwnW w' w.heap.size (.slice (some ⟨w.heap.size, 0, none⟩) 10 10) (List.replicate 10 0) := rnew_yes 10 (by decide) (by decide) w
/-- the words behind filled -/
def ten (X V : Nat → Nat) (k : Nat) : List Nat := fillW (List.replicate 10 0) X V k
theorem ten_len (X V : Nat → Nat) (k : Nat) : (ten X V k).length = 10 := by unfold ten; rw [fillW_len]; rfl
theorem ten_lt {X V : Nat → Nat} (hV : ∀ i, V i < 18446744073709551616) (k : Nat) : ∀ x ∈ ten X V k, x < 18446744073709551616 := fillW_lt (by intro x hx; rw [List.eq_of_mem_replicate hx]; decide) hV k
end Go.Proofs.YtoamlkljfmgomaaGreat

/-
  A Tx of the call's own, over a segment of the call's own: what stays of it, and of what else the call has made, step by step. Plain memory.
  No condition.
-/
namespace Go.Proofs.YtoamlkljfmgomaaGreat
open Go.RowKit
set_option linter.unusedVariables false
set_option linter.unusedSimpArgs false

/-- In w, which has all that w0 had: a Tx of blocks that are not w0's. -/
structure Txs (w0 w : World) (T M : Nat) (R : Option Nat) (B D : Nat) (ws : List Nat) (l : List (Nat × Nat)) : Prop where
  tx : Thinks w T M R B D ws l
  since : w0.grownBy w none
  newT : w0.heap.size ≤ T
  newM : w0.heap.size ≤ M
  newR : ∀ g, R = some g → w0.heap.size ≤ g
  newB : w0.heap.size ≤ B
  newD : w0.heap.size ≤ D
section
variable {w0 w w' : World} {T M : Nat} {R : Option Nat} {B D : Nat} {ws ws' : List Nat} {l l' : List (Nat × Nat)}
theorem Txs.later (h : Txs w0 w T M R B D ws l) (hg : w.grownBy w' none) : Txs w0 w' T M R B D ws l :=
  ⟨h.tx.later hg, grown_trans h.since hg, h.newT, h.newM, h.newR, h.newB, h.newD⟩
theorem Txs.foot_new (h : Txs w0 w T M R B D ws l) {k : Nat} (hk : foot T M R k) : w0.heap.size ≤ k := by
  rcases hk with rfl | rfl | hk
  · exact h.newT
  · exact h.newM
  · exact h.newR _ hk
/-- a step that turns the Tx's own blocks alone -/
theorem Txs.step (h : Txs w0 w T M R B D ws l) (ht : Thought w T M R B D ws l' w') :
    ∃ R', Txs w0 w' T M R' B D ws l' ∧ Turned (foot T M R) w w' ∧ (R' = R ∨ ∃ g, R' = some g ∧ w.heap.size ≤ g) := by
  obtain ⟨R', h1, h2, h3⟩ := ht
  refine ⟨R', ⟨h1, ?_, h.newT, h.newM, ?_, h.newB, h.newD⟩, h2, h3⟩
  · exact ((Turned.of_none h.since (foot T M R)).trans h2 (fun i hi => .inl hi)).grown (fun i hi => h.foot_new hi)
  · intro g hg
    rcases h3 with rfl | ⟨g', rfl, hg'⟩
    · exact h.newR g hg
    · injection hg with hg
      subst hg
      exact Nat.le_trans h.since.size hg'
/-- a step that turns the segment's bytes alone -/
theorem Txs.seg (h : Txs w0 w T M R B D ws l) (hg : w.grownBy w' (some D)) (ht : Thinks w' T M R B D ws' l) : Txs w0 w' T M R B D ws' l :=
  ⟨ht, grown_step h.since hg (fun i hi => .inl (by injection hi with hi; subst hi; exact h.newD)), h.newT, h.newM, h.newR, h.newB, h.newD⟩
theorem Txs.seg_store (h : Txs w0 w T M R B D ws l) (hg : w.grownBy w' (some D)) (hs : IsSeg w' B D ws') (hl : ws'.length = ws.length) : Txs w0 w' T M R B D ws' l :=
  h.seg hg (h.tx.seg_turned hg hs hl)
end
/-! ### What else the call has, behind such a step -/
section
variable {w w' : World} {T M : Nat} {R : Option Nat} {B D : Nat} {ws : List Nat} {l : List (Nat × Nat)}
/-- a row of words that isn't the Tx's row -/
theorem OwnW.past (h : Thinks w T M R B D ws l) (ht : Turned (foot T M R) w w') {base : Nat} {v : Value} {xs : List Nat} (ho : OwnW w base v xs) (hne : ∀ g, v.ownBlock = some g → R ≠ some g) : OwnW w' base v xs :=
  row_turned ho ht (fun g hg hf => by
    obtain ⟨_, cur, hb⟩ := row_block ho hg
    obtain ⟨tv, h1, _⟩ := h.head
    obtain ⟨Da, h2, _⟩ := h.map
    obtain ⟨es, clock, h2⟩ := map_block h2
    rcases hf with e | e | e
    · exact ne_type h1 hb (by decide) e.symm
    · exact ne_map hb h2 e
    · exact hne g hg e)
theorem OwnP.past (h : Thinks w T M R B D ws l) (ht : Turned (foot T M R) w w') {base : Nat} {v : Value} {xs : List (Nat × Nat)} (ho : OwnP w base v xs) : OwnP w' base v xs :=
  row_turned ho ht (fun g hg hf => by
    obtain ⟨_, cur, hb⟩ := row_block ho hg
    obtain ⟨tv, h1, _⟩ := h.head
    obtain ⟨Da, h2, _⟩ := h.map
    obtain ⟨es, clock, h2⟩ := map_block h2
    rcases hf with e | e | e
    · exact ne_type h1 hb (by decide) e.symm
    · exact ne_map hb h2 e
    · obtain ⟨c2, hr⟩ := h.row e
      exact ne_type hb hr (by decide) rfl)
/-- a block of another type's -/
theorem Thinks.far (h : Thinks w T M R B D ws l) {b : Nat} {c : Array Value} {t : TypeId} {fr : Nat × Nat} (hb : w.heap[b]? = some (.cells c t fr)) (h1 : t ≠ 109) (h2 : t ≠ 23) : ¬ foot T M R b := by
  obtain ⟨tv, k1, _⟩ := h.head
  obtain ⟨Da, k2, _⟩ := h.map
  obtain ⟨es, clock, k2⟩ := map_block k2
  rintro (e | e | e)
  · exact ne_type hb k1 h1 e
  · exact ne_map hb k2 e
  · obtain ⟨c2, hr⟩ := h.row e
    exact ne_type hb hr h2 rfl
theorem OwnW.past_seg (h : IsSeg w B D ws) (hg : w.grownBy w' (some D)) {base : Nat} {v : Value} {xs : List Nat} (ho : OwnW w base v xs) : OwnW w' base v xs :=
  row_turned ho (Turned.of_grown hg) (fun g hg' e => by
    injection e with e
    subst e
    obtain ⟨_, cur, hb⟩ := row_block ho hg'
    exact ne_type h.data hb (by decide) rfl)
theorem OwnP.past_seg (h : IsSeg w B D ws) (hg : w.grownBy w' (some D)) {base : Nat} {v : Value} {xs : List (Nat × Nat)} (ho : OwnP w base v xs) : OwnP w' base v xs :=
  row_turned ho (Turned.of_grown hg) (fun g hg' e => by
    injection e with e
    subst e
    obtain ⟨_, cur, hb⟩ := row_block ho hg'
    exact ne_type h.data hb (by decide) rfl)
end
/-- words that are thought of, k pairs of a list, one behind the other -/
def thinkL (ws : List Nat) (X V : Nat → Nat) : Nat → List (Nat × Nat)
  | 0 => []
  | k + 1 => txStore ws (thinkL ws X V k) (X k) (V k)
theorem thinkL_ok {ws : List Nat} {X V : Nat → Nat} (hV : ∀ i, V i < 18446744073709551616) : ∀ k, TxOk ws (thinkL ws X V k)
  | 0 => TxOk.empty _
  | k + 1 => (thinkL_ok hV k).store _ (hV k)
end Go.Proofs.YtoamlkljfmgomaaGreat

/-
  A region that draws its order, and whose later operations a guard strikes: its steps, one by one, with the slot written out. Plain laws of the kit's, turned.
  No condition.
-/
namespace Go.Proofs.YtoamlkljfmgomaaGreat
set_option linter.unusedVariables false
set_option linter.unusedSimpArgs false
section
variable {P : Program} {md : Region.Mode} {ops : Array Oper} {Q : Exit → Act → World → Prop} {S : World → Prop}
theorem held_yes (i : Nat) (t : Tmp) {oi : Oper} {v : Value} {fuel : Nat} {listed : Array Bool} {a : Act} {w : World} (hi : ops[i]? = some oi) (hd : oi.dst = some t)
    (hs : Region.noSelect ops = true) (hf : Region.free md ops listed i = true) (hr : (Region.ready md ops listed).contains i = true)
    (hQ : ∀ c a w, Q (.panic c) (a.put (some t) v) w → Q (.panic c) a w) (hw : Region.wanted oi (yielded ops a.tmps) = true) (hy : ∀ w, S w → (execOp a.eval oi).run P w = .ok (.value v) w) (hS : S w)
    (h : wpAnyH P md ops Q S fuel (listed.setIfInBounds i true) (a.put (some t) v) w) : wpAnyH P md ops Q S (fuel + 1) listed a w :=
  wpAnyH_take hi hs hf hr (by rw [hd]; exact hQ) (Or.inl ⟨hw, hy⟩) hS (by rw [hd]; exact h)
theorem held_skip (i : Nat) (t : Tmp) {oi : Oper} {fuel : Nat} {listed : Array Bool} {a : Act} {w : World} (hi : ops[i]? = some oi) (hd : oi.dst = some t)
    (hs : Region.noSelect ops = true) (hf : Region.free md ops listed i = true) (hr : (Region.ready md ops listed).contains i = true)
    (hQ : ∀ c a w, Q (.panic c) (a.put (some t) undef) w → Q (.panic c) a w) (hw : Region.wanted oi (yielded ops a.tmps) = false) (hS : S w)
    (h : wpAnyH P md ops Q S fuel (listed.setIfInBounds i true) (a.put (some t) undef) w) : wpAnyH P md ops Q S (fuel + 1) listed a w :=
  wpAnyH_take hi hs hf hr (by rw [hd]; exact hQ) (Or.inr ⟨hw, rfl⟩) hS (by rw [hd]; exact h)
end
end Go.Proofs.YtoamlkljfmgomaaGreat

/-
  The contract of 'awake' of layer 3, and of 'words': all words of a segment of 80 bytes.
  No condition.
-/
namespace Go.Proofs.YtoamlkljfmgomaaGreat
open Go.RowKit
set_option linter.unusedVariables false
set_option linter.unusedSimpArgs false

theorem aw_new (w : World) : Calls Tryz.prog 44 #[.int .u64 32] w fun e w' => e = .returned (.pointer (some ⟨w.heap.size + 1, 0, none⟩)) ∧ w.grownBy w' none ∧ IsSeg w' (w.heap.size + 1) w.heap.size [0, 0, 0, 0] := new_yes 4 (by decide) (by decide) w
section
variable {w0 w : World} {T M : Nat} {R : Option Nat} {B D : Nat}
theorem aw_store1 (h : Txs w0 w T M R B D [0, 0, 0, 0] []) : Calls Tryz.prog 17 #[.pointer (some ⟨T, 0, none⟩), .int .u64 8, .int .u64 1] w fun e w' => e = .returned (.tuple #[]) ∧ ∃ R', Txs w0 w' T M R' B D [0, 0, 0, 0] [(8, 1)] :=
  (txstore_any h.tx 8 1 (by decide) (by decide)).mono fun e w' ⟨h1, h2⟩ => by
    obtain ⟨R', h3, _⟩ := h.step h2
    exact ⟨h1, R', h3⟩
theorem aw_store2 (h : Txs w0 w T M R B D [0, 0, 0, 0] [(8, 1)]) : Calls Tryz.prog 17 #[.pointer (some ⟨T, 0, none⟩), .int .u64 8, .int .u64 2] w fun e w' => e = .returned (.tuple #[]) ∧ ∃ R', Txs w0 w' T M R' B D [0, 0, 0, 0] [(8, 2)] :=
  (txstore_any h.tx 8 2 (by decide) (by decide)).mono fun e w' ⟨h1, h2⟩ => by
    obtain ⟨R', h3, _⟩ := h.step h2
    exact ⟨h1, R', h3⟩
theorem aw_store3 (h : Txs w0 w T M R B D [0, 0, 0, 0] [(8, 2)]) : Calls Tryz.prog 17 #[.pointer (some ⟨T, 0, none⟩), .int .u64 3, .int .u64 9] w fun e w' => e = .returned (.tuple #[]) ∧ ∃ R', Txs w0 w' T M R' B D [0, 0, 0, 0] [(8, 2)] :=
  (txstore_any h.tx 3 9 (by decide) (by decide)).mono fun e w' ⟨h1, h2⟩ => by
    obtain ⟨R', h3, _⟩ := h.step h2
    exact ⟨h1, R', h3⟩
theorem aw_load1 (h : IsSeg w B D [0, 0, 0, 0]) : Calls Tryz.prog 88 #[.pointer (some ⟨B, 0, none⟩), .int .u64 8] w fun e w' => e = .returned (.tuple #[.int .u64 0, .int .i64 0]) ∧ w.grownBy w' none := load_any (.inr ⟨B, D, rfl, h⟩) 8 (by decide)
theorem aw_load2 (h : IsSeg w B D [0, 2, 0, 0]) : Calls Tryz.prog 88 #[.pointer (some ⟨B, 0, none⟩), .int .u64 8] w fun e w' => e = .returned (.tuple #[.int .u64 2, .int .i64 0]) ∧ w.grownBy w' none := load_any (.inr ⟨B, D, rfl, h⟩) 8 (by decide)
theorem aw_load (h : Txs w0 w T M R B D [0, 2, 0, 0] [(8, 2)]) : Calls Tryz.prog 20 #[.pointer (some ⟨T, 0, none⟩), .int .u64 8] w fun e w' => e = .returned (.int .u64 2) ∧ w.grownBy w' none := txload_any h.tx 8 (by decide)
end
/-! ### words -/
/-- the first k words -/
def firstW (ws : List Nat) (k : Nat) : List Nat := (List.range k).map fun j => getW ws (8 * j)
theorem firstW_step (ws : List Nat) (k : Nat) : firstW ws (k + 1) = firstW ws k ++ [getW ws (8 * k)] := by
  unfold firstW
  rw [List.range_succ, List.map_append]
  rfl
theorem firstW_len (ws : List Nat) (k : Nat) : (firstW ws k).length = k := by simp [firstW]
theorem firstW_all (ws : List Nat) : firstW ws ws.length = ws := by
  apply List.ext_getElem?
  intro i
  rcases Nat.lt_or_ge i ws.length with h | h
  · have hs : stands ws (8 * i) := ⟨by omega, by omega⟩
    unfold firstW
    rw [List.getElem?_map, List.getElem?_range h, Option.map_some]
    unfold getW
    rw [if_pos hs, show 8 * i / 8 = i by omega, List.getD_eq_getElem?_getD, List.getElem?_eq_getElem h]
    rfl
  · rw [List.getElem?_eq_none (by rw [firstW_len]; exact h), List.getElem?_eq_none h]
end Go.Proofs.YtoamlkljfmgomaaGreat

/-
  The contract of 'thought': a Tx over a segment, in which words were thought of, and the plain answer's.
  Conditions: the pairs lie in memory.
-/
namespace Go.Proofs.YtoamlkljfmgomaaGreat
open Go.RowKit
set_option linter.unusedVariables false
set_option linter.unusedSimpArgs false

/-- A block of a plain answer's own is turned, and nothing of the Tx. -/
theorem Txs.other {w0 w w' : World} {T M : Nat} {R : Option Nat} {B D : Nat} {ws : List Nat} {l : List (Nat × Nat)} (h : Txs w0 w T M R B D ws l) {b : Nat} {c : Array Value} (hb : w.heap[b]? = some (.cells c 54 (0, 0))) (hn : w0.heap.size ≤ b) (hg : w.grownBy w' (some b)) : Txs w0 w' T M R B D ws l where
  tx := h.tx.turned (Turned.of_grown hg) (fun k hk => by
    injection hk with hk
    subst hk
    exact ⟨h.tx.far hb (by decide) (by decide), fun e => ne_type hb h.tx.seg.head (by decide) e, fun e => ne_type hb h.tx.seg.data (by decide) e⟩)
  since := grown_step h.since hg (fun i hi => .inl (by injection hi with hi; omega))
  newT := h.newT
  newM := h.newM
  newR := h.newR
  newB := h.newB
  newD := h.newD
theorem RTx.other {w w' : World} {base : Nat} {wv pv : Value} {ws : List Nat} {l : List (Nat × Nat)} (h : RTx w base wv pv ws l) {b : Nat} {c : Array Value} (hb : w.heap[b]? = some (.cells c 54 (0, 0))) (hg : w.grownBy w' (some b)) : RTx w' base wv pv ws l where
  words := row_turned h.words (Turned.of_grown hg) (fun g hg' e => by
    injection e with e
    subst e
    obtain ⟨_, cur, h4⟩ := row_block h.words hg'
    exact ne_type hb h4 (by decide) rfl)
  puts := row_turned h.puts (Turned.of_grown hg) (fun g hg' e => by
    injection e with e
    subst e
    obtain ⟨_, cur, h4⟩ := row_block h.puts hg'
    exact ne_type hb h4 (by decide) rfl)
/-- What holds at the head of the loop. -/
structure ThRel (w : World) (T M B D bx b6 : Nat) (wv : Value) (ws : List Nat) (l : List (Nat × Nat)) (wr : World) : Prop where
  tx : ∃ R, Txs w wr T M R B D ws l ∧ ∀ g, wv.ownBlock = some g → R ≠ some g
  box : ∃ pv, wr.heap[bx]? = some (.cells #[wv, pv] 54 (0, 0)) ∧ RTx wr w.heap.size wv pv ws l
  res : wr.heap[b6]? = some (.cells #[.slice none 0 0, .slice none 0 0] 54 (0, 0))
theorem ThRel.later {w w' wr : World} {T M B D bx b6 : Nat} {wv : Value} {ws : List Nat} {l : List (Nat × Nat)} (h : ThRel w T M B D bx b6 wv ws l wr) (hg : wr.grownBy w' none) : ThRel w T M B D bx b6 wv ws l w' := by
  obtain ⟨R, h1, h2⟩ := h.tx
  obtain ⟨pv, h3, h4⟩ := h.box
  exact ⟨⟨R, h1.later hg, h2⟩, ⟨pv, (hg.block _ (lt_of_block h3) (by simp)).trans h3, h4.later hg⟩, (hg.block _ (lt_of_block h.res) (by simp)).trans h.res⟩
/-- What Thought makes of it: the Tx has the word, the plain answer hasn't. -/
structure ThMid (w : World) (T M B D bx b6 : Nat) (wv : Value) (ws : List Nat) (l l' : List (Nat × Nat)) (wr : World) : Prop where
  tx : ∃ R, Txs w wr T M R B D ws l' ∧ ∀ g, wv.ownBlock = some g → R ≠ some g
  box : ∃ pv, wr.heap[bx]? = some (.cells #[wv, pv] 54 (0, 0)) ∧ RTx wr w.heap.size wv pv ws l
  res : wr.heap[b6]? = some (.cells #[.slice none 0 0, .slice none 0 0] 54 (0, 0))
theorem ThMid.later {w w' wr : World} {T M B D bx b6 : Nat} {wv : Value} {ws : List Nat} {l l' : List (Nat × Nat)} (h : ThMid w T M B D bx b6 wv ws l l' wr) (hg : wr.grownBy w' none) : ThMid w T M B D bx b6 wv ws l l' w' := by
  obtain ⟨R, h1, h2⟩ := h.tx
  obtain ⟨pv, h3, h4⟩ := h.box
  exact ⟨⟨R, h1.later hg, h2⟩, ⟨pv, (hg.block _ (lt_of_block h3) (by simp)).trans h3, h4.later hg⟩, (hg.block _ (lt_of_block h.res) (by simp)).trans h.res⟩
/-- The first store. -/
theorem ThRel.store {w wr : World} {T M B D bx b6 : Nat} {wv : Value} {ws : List Nat} {l : List (Nat × Nat)} (h : ThRel w T M B D bx b6 wv ws l wr) (off v : Nat) (ho : off < 18446744073709551616) (hv : v < 18446744073709551616) :
    Calls Tryz.prog 17 #[.pointer (some ⟨T, 0, none⟩), .int .u64 off, .int .u64 v] wr fun e w' => e = .returned (.tuple #[]) ∧ ThMid w T M B D bx b6 wv ws l (txStore ws l off v) w' := by
  obtain ⟨R, h1, h2⟩ := h.tx
  refine (txstore_any h1.tx off v ho hv).mono ?_
  rintro e w' ⟨rfl, ht⟩
  obtain ⟨R', k1, k2, k3⟩ := h1.step ht
  obtain ⟨pv, h3, h4⟩ := h.box
  refine ⟨rfl, ⟨R', k1, fun g hg => ?_⟩, ⟨pv, k2.heap h3 (h1.tx.far h3 (by decide) (by decide)), ⟨OwnW.past h1.tx k2 h4.words h2, OwnP.past h1.tx k2 h4.puts⟩⟩, k2.heap h.res (h1.tx.far h.res (by decide) (by decide))⟩
  rcases k3 with rfl | ⟨g', rfl, hg'⟩
  · exact h2 g hg
  · intro e
    injection e with e
    obtain ⟨_, cur, hb⟩ := row_block h4.words hg
    have := lt_of_block hb
    omega
/-- The second one. -/
theorem ThMid.stored {w wr w4 : World} {T M B D bx b6 : Nat} {wv pv' : Value} {ws : List Nat} {l l' : List (Nat × Nat)} (h : ThMid w T M B D bx b6 wv ws l l' wr) (hg : wr.grownBy w4 none) (hr : RTx w4 w.heap.size wv pv' ws l') (hbx : w.heap.size ≤ bx) (hne : bx ≠ b6) :
    ThRel w T M B D bx b6 wv ws l' ((w4.setCell ⟨bx, 0, none⟩ wv).setCell ⟨bx, 1, none⟩ pv') := by
  obtain ⟨R, h1, h2⟩ := h.tx
  obtain ⟨pv, h3, _⟩ := h.box
  have h3' := (hg.block _ (lt_of_block h3) (by simp)).trans h3
  have hs : w4.grownBy ((w4.setCell ⟨bx, 0, none⟩ wv).setCell ⟨bx, 1, none⟩ pv') (some bx) := grown_trans (grown_set _ _ _ _) (grown_set _ _ _ _)
  refine ⟨⟨R, (h1.later hg).other h3' hbx hs, h2⟩, ⟨pv', ?_, hr.other h3' hs⟩, ?_⟩
  · rw [heap_setCell_same (heap_setCell_same h3' wv) pv']; rfl
  · have := (hg.block _ (lt_of_block h.res) (by simp)).trans h.res
    exact (hs.block _ (lt_of_block this) (by simpa using hne.symm)).trans this
/-- What thought tells. -/
def Thought3 (w : World) (ws : List Nat) (l : List (Nat × Nat)) (e : Ending) (w' : World) : Prop :=
  ∃ B D T M R wv pv, e = .returned (.tuple #[.pointer (some ⟨B, 0, none⟩), .pointer (some ⟨T, 0, none⟩), .agg #[wv, pv]]) ∧ Txs w w' T M R B D ws l ∧ RTx w' w.heap.size wv pv ws l ∧ ∀ g, wv.ownBlock = some g → R ≠ some g
theorem wv_form {w : World} {base : Nat} {v : Value} {ws : List Nat} (h : OwnW w base v ws) : ∃ a n c, v = .slice a n c := by
  obtain ⟨a, c, h⟩ := h.slice
  exact ⟨a, _, c, h⟩
theorem pv_form {w : World} {base : Nat} {v : Value} {l : List (Nat × Nat)} (h : OwnP w base v l) : ∃ a n c, v = .slice a n c := by
  obtain ⟨a, c, g, h, _⟩ := h.addr
  exact ⟨a, _, c, h⟩
end Go.Proofs.YtoamlkljfmgomaaGreat

/-
  Words that are thought of, applied: the plain mathematics of layer 3's last statements.
  No condition.
-/
namespace Go.Proofs.YtoamlkljfmgomaaGreat
open Go.RowKit
set_option linter.unusedVariables false
set_option linter.unusedSimpArgs false

theorem stands_put' (ws : List Nat) (x y off : Nat) : stands (put ws x y) off ↔ stands ws off := by unfold stands; rw [put_len]
theorem getW_put' {ws : List Nat} {x : Nat} (y off : Nat) (h : stands ws x) : getW (put ws x y) off = if off = x then y else getW ws off := by
  by_cases ho : stands ws off
  · have h1 := (stands_put' ws x y off).2 ho
    unfold getW
    rw [if_pos h1, if_pos ho]
    unfold put
    rw [if_pos h]
    have hx := h.1
    have hx2 := h.2
    have ho1 := ho.1
    by_cases e : off = x
    · subst e
      rw [if_pos rfl, List.getD_eq_getElem?_getD, List.getElem?_set_self (by omega)]
      rfl
    · rw [if_neg e, List.getD_eq_getElem?_getD, List.getElem?_set_ne (by omega), List.getD_eq_getElem?_getD]
  · have e : off ≠ x := fun e => ho (e ▸ h)
    unfold getW
    rw [if_neg (fun h' => ho ((stands_put' ws x y off).1 h')), if_neg ho, if_neg e]
/-- Words are told by what stands at their offsets. -/
theorem words_ext {a b : List Nat} (hl : a.length = b.length) (h : ∀ k, k < a.length → getW a (8 * k) = getW b (8 * k)) : a = b := by
  rw [← firstW_all a, ← firstW_all b, ← hl]
  unfold firstW
  exact List.map_congr_left fun k hk => h k (List.mem_range.1 hk)
theorem stands_apply (ws : List Nat) (l : List (Nat × Nat)) (off : Nat) : stands (txApply ws l) off ↔ stands ws off := by unfold stands; rw [txApply_len]
/-- what stands at an offset behind Apply -/
theorem apply_get {ws : List Nat} {l : List (Nat × Nat)} (h : TxOk ws l) (off : Nat) : getW (txApply ws l) off = txSee ws l off := by
  induction l generalizing ws with
  | nil => rfl
  | cons p r ih =>
    have hs := h.stand p List.mem_cons_self
    have hr : TxOk (put ws p.1 p.2) r := by
      have h1 := h.once
      simp only [txKeys, List.map_cons] at h1
      exact ⟨(List.nodup_cons.1 h1).2, fun q hq => (stands_put' _ _ _ _).2 (h.stand q (List.mem_cons_of_mem _ hq)), fun q hq => h.word q (List.mem_cons_of_mem _ hq)⟩
    have hn : txGet r p.1 = none := by
      have h1 := h.once
      simp only [txKeys, List.map_cons] at h1
      exact txGet_none.2 (List.nodup_cons.1 h1).1
    show getW (txApply (put ws p.1 p.2) r) off = _
    rw [ih hr]
    unfold txSee
    rw [getW_put' p.2 off hs]
    have e0 : txGet (p :: r) off = if p.1 = off then some p.2 else txGet r off := rfl
    rw [e0]
    by_cases e : p.1 = off
    · rw [if_pos e, if_pos e.symm, ← e, hn]; rfl
    · rw [if_neg e, if_neg (fun h => e h.symm)]
theorem TxOk.apply {ws : List Nat} {l l' : List (Nat × Nat)} (h : TxOk ws l) : TxOk (txApply ws l') l :=
  ⟨h.once, fun p hp => (stands_apply _ _ _).2 (h.stand p hp), h.word⟩
/-- Applied again nothing changes. -/
theorem apply_twice {ws : List Nat} {l : List (Nat × Nat)} (h : TxOk ws l) : txApply (txApply ws l) l = txApply ws l := by
  refine words_ext (txApply_len _ _) fun k _ => ?_
  rw [apply_get h.apply, apply_get h]
  unfold txSee
  rw [apply_get h]
  unfold txSee
  cases txGet l (8 * k) <;> rfl
theorem diff_same (a : List Nat) : ∀ m, diffL a a m = []
  | 0 => rfl
  | m + 1 => by
    rw [diffL_no (fun h => by rcases h with h | h <;> exact h rfl)]
    exact diff_same a m
/-- is x among the first k offsets? -/
def inB (l : List (Nat × Nat)) (x k : Nat) : Bool := (List.range k).any fun j => txX l j == x
theorem inB_step (l : List (Nat × Nat)) (x k : Nat) : inB l x (k + 1) = (inB l x k || (txX l k == x)) := by
  simp [inB, List.range_succ]
theorem inB_all (l : List (Nat × Nat)) (x : Nat) : inB l x l.length = (txGet l x).isSome := by
  rcases e : txAt l x with _ | i
  · rw [txAt_none.1 e]
    have h := txAt_nobody e
    simp only [inB, Option.isSome_none, List.any_eq_false, List.mem_range]
    intro j hj
    simpa using h j hj
  · obtain ⟨h1, h2, h3, _⟩ := txAt_some e
    rw [h3]
    simp only [inB, Option.isSome_some, List.any_eq_true, List.mem_range]
    exact ⟨i, h1, by simpa using h2⟩
/-- What is unlike behind Apply was thought of. -/
theorem diff_apply {ws : List Nat} {l : List (Nat × Nat)} (h : TxOk ws l) (m : Nat) : (∀ x ∈ diffL ws (txApply ws l) m, (txGet l x).isSome = true) ∧ (diffL ws (txApply ws l) m).length ≤ l.length := by
  have h1 : ∀ x ∈ diffL ws (txApply ws l) m, (txGet l x).isSome = true := fun x hx => by
    unfold diffL at hx
    obtain ⟨k, hk, rfl⟩ := List.mem_map.1 hx
    have hu := of_decide_eq_true (List.mem_filter.1 hk).2
    rcases e : txGet l (8 * k) with _ | v
    · exfalso
      rcases hu with hu | hu
      · rw [apply_get h] at hu
        unfold txSee at hu
        rw [e] at hu
        exact hu rfl
      · unfold errW at hu
        by_cases hs : stands ws (8 * k)
        · rw [if_pos hs, if_pos ((stands_apply ws l (8 * k)).2 hs)] at hu
          exact hu rfl
        · rw [if_neg hs, if_neg (fun h' => hs ((stands_apply ws l (8 * k)).1 h'))] at hu
          exact hu rfl
    · rfl
  refine ⟨h1, ?_⟩
  have hn : (diffL ws (txApply ws l) m).Nodup := nodup_map (fun a _ b _ e => by omega) (List.nodup_range.filter _)
  have h2 : ((diffL ws (txApply ws l) m).map fun x => (txAt l x).getD 0).Nodup := nodup_map (fun a ha b hb e => by
    rcases ea : txAt l a with _ | i
    · have := h1 a ha; rw [txAt_none.1 ea] at this; cases this
    · rcases eb : txAt l b with _ | j
      · have := h1 b hb; rw [txAt_none.1 eb] at this; cases this
      · rw [ea, eb] at e
        have e' : i = j := e
        subst e'
        rw [← (txAt_some ea).2.1, ← (txAt_some eb).2.1]) hn
  have := nodup_below l.length _ h2 (fun x hx => by
    obtain ⟨y, hy, rfl⟩ := List.mem_map.1 hx
    rcases ey : txAt l y with _ | j
    · have := h1 y hy; rw [txAt_none.1 ey] at this; cases this
    · exact (txAt_some ey).1)
  simpa using this
/-- No offset stands twice. -/
theorem TxOk.apart {ws : List Nat} {l : List (Nat × Nat)} (h : TxOk ws l) {i j : Nat} (hi : i < l.length) (hj : j < i) : txX l j ≠ txX l i := by
  have h1 : (txKeys l)[i]'(by rw [txKeys_len]; exact hi) = txX l i := by simp [txKeys, txX, List.getD_eq_getElem?_getD, List.getElem?_eq_getElem hi]
  have h2 : (txKeys l)[j]'(by rw [txKeys_len]; omega) = txX l j := by simp [txKeys, txX, List.getD_eq_getElem?_getD, List.getElem?_eq_getElem (Nat.lt_trans hj hi)]
  rw [← h1, ← h2]
  intro e
  have := (List.getElem_inj h.once).1 e
  omega
theorem see_apply {ws : List Nat} {l : List (Nat × Nat)} (h : TxOk ws l) (ws' : List Nat) {i : Nat} (hi : i < l.length) : txSee ws' l (txX l i) = txV l i := by
  unfold txSee
  rw [h.getD hi]
  rfl
end Go.Proofs.YtoamlkljfmgomaaGreat

/-
  A Tx, and the plain answer's value in a box beside it: what each of them has thought of.
  No condition.
-/
namespace Go.Proofs.YtoamlkljfmgomaaGreat
open Go.RowKit
set_option linter.unusedVariables false
set_option linter.unusedSimpArgs false

/-- The Tx has l', the plain answer's value (in block bx) has l; all of it is newer than w. -/
structure Duo (w : World) (T M B D bx : Nat) (wv : Value) (ws : List Nat) (l l' : List (Nat × Nat)) (wr : World) : Prop where
  tx : ∃ R, Txs w wr T M R B D ws l' ∧ ∀ g, wv.ownBlock = some g → R ≠ some g
  box : ∃ pv, wr.heap[bx]? = some (.cells #[wv, pv] 54 (0, 0)) ∧ RTx wr w.heap.size wv pv ws l
section
variable {w wr w' : World} {T M B D bx : Nat} {wv : Value} {ws : List Nat} {l l' l2 : List (Nat × Nat)}
theorem Duo.later (h : Duo w T M B D bx wv ws l l' wr) (hg : wr.grownBy w' none) : Duo w T M B D bx wv ws l l' w' := by
  obtain ⟨R, h1, h2⟩ := h.tx
  obtain ⟨pv, h3, h4⟩ := h.box
  exact ⟨⟨R, h1.later hg, h2⟩, ⟨pv, (hg.block _ (lt_of_block h3) (by simp)).trans h3, h4.later hg⟩⟩
theorem Duo.since (h : Duo w T M B D bx wv ws l l' wr) : w.grownBy wr none := by obtain ⟨R, h1, _⟩ := h.tx; exact h1.since
/-- The Tx thinks of more. -/
theorem Duo.step (h : Duo w T M B D bx wv ws l l' wr) {R : Option Nat} (h1 : Txs w wr T M R B D ws l') (h2 : ∀ g, wv.ownBlock = some g → R ≠ some g) (ht : Thought wr T M R B D ws l2 w') : Duo w T M B D bx wv ws l l2 w' := by
  obtain ⟨R', k1, k2, k3⟩ := h1.step ht
  obtain ⟨pv, h3, h4⟩ := h.box
  refine ⟨⟨R', k1, fun g hg => ?_⟩, ⟨pv, k2.heap h3 (h1.tx.far h3 (by decide) (by decide)), ⟨OwnW.past h1.tx k2 h4.words h2, OwnP.past h1.tx k2 h4.puts⟩⟩⟩
  rcases k3 with rfl | ⟨g', rfl, hg'⟩
  · exact h2 g hg
  · intro e
    injection e with e
    obtain ⟨_, cur, hb⟩ := row_block h4.words hg
    have := lt_of_block hb
    omega
/-- .. or the plain answer's value, in its box. -/
theorem Duo.told (h : Duo w T M B D bx wv ws l l' wr) (hg : wr.grownBy w' none) {pv : Value} (hr : RTx w' w.heap.size wv pv ws l2) (hbx : w.heap.size ≤ bx) :
    Duo w T M B D bx wv ws l2 l' ((w'.setCell ⟨bx, 0, none⟩ wv).setCell ⟨bx, 1, none⟩ pv) := by
  obtain ⟨R, h1, h2⟩ := h.tx
  obtain ⟨pv0, h3, _⟩ := h.box
  have h3' := (hg.block _ (lt_of_block h3) (by simp)).trans h3
  have hs : w'.grownBy ((w'.setCell ⟨bx, 0, none⟩ wv).setCell ⟨bx, 1, none⟩ pv) (some bx) := grown_trans (grown_set _ _ _ _) (grown_set _ _ _ _)
  refine ⟨⟨R, (h1.later hg).other h3' hbx hs, h2⟩, ⟨pv, ?_, hr.other h3' hs⟩⟩
  rw [heap_setCell_same (heap_setCell_same h3' wv) pv]; rfl
/-- A store of the Tx's. -/
theorem Duo.store (h : Duo w T M B D bx wv ws l l' wr) (off v : Nat) (ho : off < 18446744073709551616) (hv : v < 18446744073709551616) :
    Calls Tryz.prog 17 #[.pointer (some ⟨T, 0, none⟩), .int .u64 off, .int .u64 v] wr fun e w' => e = .returned (.tuple #[]) ∧ Duo w T M B D bx wv ws l (txStore ws l' off v) w' := by
  obtain ⟨R, h1, h2⟩ := h.tx
  refine (txstore_any h1.tx off v ho hv).mono ?_
  rintro e w' ⟨rfl, ht⟩
  exact ⟨rfl, h.step h1 h2 ht⟩
end
/-! ### What the caller has beside the Tx -/
/-- A row of the caller's, that isn't the Tx's. -/
def KW (w : World) (R : Option Nat) (base : Nat) (v : Value) (xs : List Nat) : Prop := OwnW w base v xs ∧ ∀ g, v.ownBlock = some g → R ≠ some g
/-- What the caller has is still there. -/
structure Keep (w : World) (R : Option Nat) (w' : World) (R' : Option Nat) : Prop where
  size : w.heap.size ≤ w'.heap.size
  row : ∀ {base : Nat} {v : Value} {xs : List Nat}, KW w R base v xs → KW w' R' base v xs
  puts : ∀ {base : Nat} {v : Value} {xs : List (Nat × Nat)}, OwnP w base v xs → OwnP w' base v xs
  far : ∀ {b : Nat} {c : Array Value} {t : TypeId}, w.heap[b]? = some (.cells c t (0, 0)) → t ≠ 109 → t ≠ 23 → w'.heap[b]? = some (.cells c t (0, 0))
section
variable {w0 w w' w2 : World} {T : Nat} {R R' R2 : Option Nat} {ws : List Nat} {base : Nat} {v : Value} {xs : List Nat}
theorem KW.later (h : KW w R base v xs) (hg : w.grownBy w' none) : KW w' R base v xs := ⟨h.1.later hg, h.2⟩
theorem KW.mono {b : Nat} (h : KW w R base v xs) (hb : b ≤ base) : KW w R b v xs := ⟨h.1.mono hb, h.2⟩
theorem Keep.of_grown (hg : w.grownBy w' none) : Keep w R w' R := ⟨hg.size, fun h => h.later hg, fun h => own_kept h hg, fun h _ _ => (hg.block _ (lt_of_block h) (by simp)).trans h⟩
theorem Keep.trans (h : Keep w R w' R') (k : Keep w' R' w2 R2) : Keep w R w2 R2 := ⟨Nat.le_trans h.size k.size, fun a => k.row (h.row a), fun a => k.puts (h.puts a), fun a b c => k.far (h.far a b c) b c⟩
theorem step_keep {M B D : Nat} {l l' : List (Nat × Nat)} (h : Txs w0 w T M R B D ws l) (ht : Thought w T M R B D ws l' w') : ∃ R', Txs w0 w' T M R' B D ws l' ∧ Keep w R w' R' := by
  obtain ⟨R', h1, h2, h3⟩ := h.step ht
  refine ⟨R', h1, ⟨h2.size, fun {base v xs} a => ⟨a.1.past h.tx h2 a.2, fun g hg e => ?_⟩, fun a => a.past h.tx h2, fun a b c => h2.heap a (h.tx.far a b c)⟩⟩
  have hlt := (World.ownsRow.lt a.1 g hg).2
  rcases h3 with rfl | ⟨g', e', hg'⟩
  · exact a.2 g hg e
  · rw [e'] at e
    injection e with e
    omega
end
end Go.Proofs.YtoamlkljfmgomaaGreat

/-
  Arguments that are pairs, and lists of pairs, opened; a pair in a block of its own.
  No condition.
-/
namespace Go.Proofs.YtoamlkljfmgomaaGreat
open Go.ChangeShapes Go.WideShapes Go.ChangeAt Go.RowKit Go.Deep
set_option linter.unusedVariables false
set_option linter.unusedSimpArgs false
set_option maxRecDepth 100000

theorem cells_put : Tryz.prog.cellsOf 58 = 2 := by kernel_rfl
theorem cells_u64 : Tryz.prog.cellsOf 23 = 1 := by kernel_rfl
section
variable {H : Type} {enc : TypeId × Value → H} {w : World}
theorem open_puts {r : Reach} {b0 : Nat} {v : Value} {d : DataW H} {p : List MemPlace} (hv : Value.okWide Tryz.prog w r b0 52 v) (h : DataW.Trod enc Tryz.prog w 0 (fun _ => true) true 52 v d p) :
    ∃ la n c X V, v = .slice la n c ∧ n ≤ maxLen ∧ PutsAt w la n X V := by
  obtain ⟨a0, l0, c0, rfl⟩ := okWide_slice Tryz.underlying52 hv
  obtain ⟨fuel, hf⟩ := h
  rcases open_slice_pairs Tryz.underlying52 Tryz.underlying58 cells_put rfl rfl cells_u64 cells_u64 hf with ⟨h0, _⟩ | ⟨a, len, cap, m, n, V0, V1, D0, D1, P0, P1, hcs, _, hl, hm, hmeq, hx, hall⟩
  · simp [Value.cells] at h0
    obtain ⟨rfl, rfl, rfl⟩ := h0
    exact ⟨none, 0, 0, fun _ => 0, fun _ => 0, rfl, Nat.zero_le _, ⟨fun _ => ⟨by decide, by decide⟩, fun h => by omega⟩⟩
  · simp [Value.cells] at hcs
    obtain ⟨rfl, rfl, rfl⟩ := hcs
    simp only [if_true] at hmeq
    subst hmeq
    have key : ∀ i, i < l0 → ∃ x y : Nat, V0 i = .int .u64 x ∧ V1 i = .int .u64 y ∧ x < 18446744073709551616 ∧ y < 18446744073709551616 := by
      intro i hi
      obtain ⟨_, _, t0, t1⟩ := hall i (by omega)
      obtain ⟨k0, e0, _, w0⟩ := DataW.trod_int Tryz.underlying23 t0
      obtain ⟨k1, e1, _, w1⟩ := DataW.trod_int Tryz.underlying23 t1
      simp only [List.cons.injEq, and_true] at e0 e1
      have b0 := bounds_u64 w0
      have b1 := bounds_u64 w1
      obtain ⟨x, rfl⟩ := Int.eq_ofNat_of_zero_le b0.1
      obtain ⟨y, rfl⟩ := Int.eq_ofNat_of_zero_le b1.1
      exact ⟨x, y, e0, e1, by omega, by omega⟩
    refine ⟨some a, l0, m, fun i => if h : i < l0 then (key i h).choose else 0, fun i => if h : i < l0 then (key i h).choose_spec.choose else 0, rfl, by omega, ⟨fun i => ?_, fun hn => ?_⟩⟩
    · by_cases hi : i < l0
      · simp only [hi, dif_pos]
        exact ⟨(key i hi).choose_spec.choose_spec.2.2.1, (key i hi).choose_spec.choose_spec.2.2.2⟩
      · simp only [hi, dif_neg, not_false_eq_true]
        exact ⟨by decide, by decide⟩
    · obtain ⟨c00, _⟩ := hall 0 (by omega)
      obtain ⟨b, off, spot⟩ := a
      have hsp : spot = none := by
        rcases spot with _ | s
        · rfl
        · simp [World.cell?, Addr.add] at c00
          split at c00 <;> simp_all
      subst hsp
      have hadd : ∀ j, (⟨b, off, none⟩ : Addr).add j = ⟨b, off + j, none⟩ := fun j => by unfold Addr.add; split <;> simp_all
      refine ⟨b, off, rfl, ?_, fun i hi => ?_⟩
      · rw [hadd] at c00
        rcases Nat.lt_or_ge b w.heap.size with h | h
        · exact h
        · simp [World.cell?, Array.getElem?_eq_none h] at c00
      · obtain ⟨c0, c1, _⟩ := hall i (by omega)
        rw [hadd] at c0 c1
        simp only [hi, dif_pos]
        obtain ⟨h1, h2, _⟩ := (key i hi).choose_spec.choose_spec
        exact ⟨c0.trans (congrArg some h1), by rw [Nat.add_assoc]; exact c1.trans (congrArg some h2)⟩
theorem open_put {r : Reach} {b0 : Nat} {v : Value} {d : DataW H} {p : List MemPlace} (hv : Value.okWide Tryz.prog w r b0 58 v) (h : DataW.Trod enc Tryz.prog w 0 (fun _ => true) true 58 v d p) :
    ∃ x y : Nat, v = .agg #[.int .u64 x, .int .u64 y] ∧ x < 18446744073709551616 ∧ y < 18446744073709551616 := by
  obtain ⟨v0, v1, y0, y1, n, rfl, _, _, t0, t1⟩ := Joins.open_agg2 Tryz.underlying58 (by kernel_rfl) cells_put hv h
  obtain ⟨k0, e0, _, w0⟩ := DataW.trod_int Tryz.underlying23 t0
  obtain ⟨k1, e1, _, w1⟩ := DataW.trod_int Tryz.underlying23 t1
  simp only [List.cons.injEq, and_true] at e0 e1
  have b0 := bounds_u64 w0
  have b1 := bounds_u64 w1
  obtain ⟨x, rfl⟩ := Int.eq_ofNat_of_zero_le b0.1
  obtain ⟨y, rfl⟩ := Int.eq_ofNat_of_zero_le b1.1
  exact ⟨x, y, by rw [e0, e1], by omega, by omega⟩
end
theorem bytes_put : Tryz.prog.bytesOf 58 = 16 := by kernel_rfl
/-- A list of pairs that was read is no longer than the form's own reach. -/
theorem puts_reach {H : Type} {enc : TypeId × Value → H} {w : World} {la : Option Addr} {n c : Nat} {d : DataW H} {p : List MemPlace} {ts : List TypeId} {ds : List (DataW H)} (hsz : (DataW.weightsEach Tryz.prog ts ds).all (· ≤ reachBytes) = true) {j : Nat} (ht : ts[j]? = some 52) (hd : ds[j]? = some d)
    (h : DataW.Trod enc Tryz.prog w 0 (fun _ => true) true 52 (.slice la n c) d p) : n * 16 ≤ 140737488351232 := by
  obtain ⟨fuel, hf⟩ := h
  rcases open_slice_pairs Tryz.underlying52 Tryz.underlying58 cells_put rfl rfl cells_u64 cells_u64 hf with ⟨h0, _⟩ | ⟨a, len, cap, m, n', V0, V1, D0, D1, P0, P1, hcs, _, hl, hm, hmeq, hx, hall⟩
  · simp [Value.cells] at h0
    obtain ⟨rfl, rfl, rfl⟩ := h0
    omega
  · simp [Value.cells] at hcs
    obtain ⟨rfl, rfl, rfl⟩ := hcs
    injection hx with hx _
    rw [hx] at hd
    have := sized_slice hsz ht hd Tryz.underlying52
    rw [bytes_put] at this
    simp only [List.length_map, List.length_range] at this
    unfold reachBytes at this
    have h2 : n * 16 ≤ (n + (m - n)) * 16 := Nat.mul_le_mul_right _ (by omega)
    omega
theorem ret_bool' {b : Bool} (h : b = true) : Ending.returned (.bool b) = .returned (.bool true) := by rw [h]
/-- A pair in a block of its own. -/
def PairAt (w : World) (b x y : Nat) : Prop := w.heap[b]? = some (.cells #[.int .u64 (x : Nat), .int .u64 (y : Nat)] 58 (0, 0))
theorem PairAt.made (w : World) (x y : Nat) : PairAt (w.alloc (.cells #[.int .u64 (x : Nat), .int .u64 (y : Nat)] 58)) w.heap.size x y := heap_alloc_new' _ _
theorem PairAt.kept {w w' : World} {b x y : Nat} (h : PairAt w b x y) {row : Option Nat} (hg : w.grownBy w' row) (hne : row ≠ some b) : PairAt w' b x y := (hg.block b (lt_of_block h) hne.symm).trans h
theorem PairAt.later {w w' : World} {b x y : Nat} (h : PairAt w b x y) (hg : w.grownBy w' none) : PairAt w' b x y := h.kept hg (by simp)
theorem PairAt.c0 {w : World} {b x y : Nat} (h : PairAt w b x y) : w.cell? ⟨b, 0, none⟩ = some (.int .u64 (x : Nat)) := by unfold PairAt at h; simp [World.cell?, h]
theorem PairAt.c1 {w : World} {b x y : Nat} (h : PairAt w b x y) : w.cell? ⟨b, 1, none⟩ = some (.int .u64 (y : Nat)) := by unfold PairAt at h; simp [World.cell?, h]
theorem PairAt.lt {w : World} {b x y : Nat} (h : PairAt w b x y) : b < w.heap.size := lt_of_block h
end Go.Proofs.YtoamlkljfmgomaaGreat

/-
  An argument of two words, opened.
  No condition.
-/
namespace Go.Proofs.YtoamlkljfmgomaaGreat
open Go.ChangeShapes Go.WideShapes Go.ChangeAt Go.RowKit
set_option maxRecDepth 100000
set_option linter.unusedVariables false
set_option linter.unusedSimpArgs false

/-! ### Two words that are handed in -/
theorem cells_pair1 : Tryz.prog.cellsOf 23 = 1 := by kernel_rfl
theorem cells_pair2 : Tryz.prog.cellsOf 45 = 2 := by kernel_rfl
section
variable {H : Type} {enc : TypeId × Value → H} {w : World} {base : Nat} {spare : Nat → Bool} {held : Bool}
theorem okWide_pair {r : Reach} {b0 : Nat} {v : Value} (h : Value.okWide Tryz.prog w r b0 45 v) : ∃ cs, v = .agg cs ∧ cs.size = Tryz.prog.cellsOf 45 := by
  have ht := Tryz.underlying45
  unfold Value.okWide at h
  simp only [ht] at h
  cases v <;> simp_all
theorem open_pair {r : Reach} {b0 : Nat} {v : Value} {d : DataW H} {p : List MemPlace} (hv : Value.okWide Tryz.prog w r b0 45 v) (h : DataW.Trod enc Tryz.prog w base spare held 45 v d p) :
    ∃ x0 x1 : Int, v = .agg #[.int .u64 x0, .int .u64 x1] ∧ (Lit.int .u64 x0).wf = true ∧ (Lit.int .u64 x1).wf = true := by
  obtain ⟨cs, rfl, hsz⟩ := okWide_pair hv
  obtain ⟨c0, c1, rfl⟩ := Joins.array2 (hsz.trans cells_pair2)
  obtain ⟨fuel, hf⟩ := h
  obtain ⟨xs, m, _, _, _, hl, hx⟩ := DataW.trod_array Tryz.underlying45 hf
  have a0 := hx 0 (by decide)
  have a1 := hx 1 (by decide)
  rw [cells_pair1] at a0 a1
  obtain ⟨y0, e0⟩ : ∃ y, xs[0]? = some y := ⟨_, List.getElem?_eq_getElem (by omega)⟩
  obtain ⟨y1, e1⟩ : ∃ y, xs[1]? = some y := ⟨_, List.getElem?_eq_getElem (by omega)⟩
  rw [e0] at a0
  rw [e1] at a1
  obtain ⟨n0, g0, _, w0⟩ := DataW.trod_int Tryz.underlying23 a0
  obtain ⟨n1, g1, _, w1⟩ := DataW.trod_int Tryz.underlying23 a1
  simp [Value.cells] at g0 g1
  exact ⟨n0, n1, by rw [g0, g1], w0, w1⟩
end

end Go.Proofs.YtoamlkljfmgomaaGreat
