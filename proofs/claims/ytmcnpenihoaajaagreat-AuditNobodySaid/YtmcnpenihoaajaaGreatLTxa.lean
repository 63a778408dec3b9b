/-
  Texts of one layer, one behind the other: memory, contracts of the functions, and what follows of them.
  Conditions: as each theorem says.
-/
import Derived.Test.YtmcnpenihoaajaaGreatRows
import Derived.Deep.RegionHeld3
import Derived.ProofKit
import Derived.Test.YtmcnpenihoaajaaGreatLSea
import Derived.RangeFuncBox
import Derived.RangeFuncNested
import Derived.RangeFuncBound
import Derived.RangeFuncCalls
import Derived.RangeFuncLeaves
import Derived.Shelf.Abstract
import Derived.Shelf.RegionOpen
import Derived.OwnWalkIn
import Derived.TacticsInMore
import Derived.LoopNIn
import Derived.LoopIn
import Derived.Maps.OwnIn
import Derived.StillTailTactics
import Derived.Deep.QuietTactic
import Derived.BigQuiet
import Derived.Laws.StructEq
import Derived.Deep.AppendLies
import Derived.Laws.AppendOwnNone
import Derived.OrdersIn
import Derived.Deep.LoopGhost
set_option linter.unusedVariables false
set_option linter.unusedSimpArgs false
namespace Go.Proofs.YtmcnpenihoaajaaGreat
section
variable {P : Program} {md : Region.Mode} {ops : Array Oper} {Q : Exit → Act → World → Prop} {S : World → Prop}
theorem held_yes (i : Nat) (t : Tmp) {oi : Oper} {v : Value} {fuel : Nat} {listed : Array Bool} {a : Act} {w : World} (hi : ops[i]? = some oi) (hd : oi.dst = some t)
    (hs : Region.noSelect ops = true) (hf : Region.free md ops listed i = true) (hr : (Region.ready md ops listed).contains i = true)
    (hQ : ∀ c a w, Q (.panic c) (a.put (some t) v) w → Q (.panic c) a w) (hw : Region.wanted oi (yielded ops a.tmps) = true) (hy : ∀ w, S w → (execOp a.eval oi).run P w = .ok (.value v) w) (hS : S w)
    (h : wpAnyH P md ops Q S fuel (listed.setIfInBounds i true) (a.put (some t) v) w) : wpAnyH P md ops Q S (fuel + 1) listed a w :=
  wpAnyH_take hi hs hf hr (by rw [hd]; exact hQ) (Or.inl ⟨hw, hy⟩) hS (by rw [hd]; exact h)
theorem held_skip (i : Nat) (t : Tmp) {oi : Oper} {fuel : Nat} {listed : Array Bool} {a : Act} {w : World} (hi : ops[i]? = some oi) (hd : oi.dst = some t)
    (hs : Region.noSelect ops = true) (hf : Region.free md ops listed i = true) (hr : (Region.ready md ops listed).contains i = true)
    (hQ : ∀ c a w, Q (.panic c) (a.put (some t) undef) w → Q (.panic c) a w) (hw : Region.wanted oi (yielded ops a.tmps) = false) (hS : S w)
    (h : wpAnyH P md ops Q S fuel (listed.setIfInBounds i true) (a.put (some t) undef) w) : wpAnyH P md ops Q S (fuel + 1) listed a w :=
  wpAnyH_take hi hs hf hr (by rw [hd]; exact hQ) (Or.inr ⟨hw, rfl⟩) hS (by rw [hd]; exact h)
end
end Go.Proofs.YtmcnpenihoaajaaGreat
namespace Go.Proofs.YtmcnpenihoaajaaGreat
open Go.RowKit
def txGet : List (Nat × Nat) → Nat → Option Nat
  | [], _ => none
  | p :: r, off => if p.1 = off then some p.2 else txGet r off
def txSet : List (Nat × Nat) → Nat → Nat → List (Nat × Nat)
  | [], off, v => [(off, v)]
  | p :: r, off, v => if p.1 = off then (off, v) :: r else p :: txSet r off v
def txKeys (l : List (Nat × Nat)) : List Nat := l.map Prod.fst
theorem txKeys_len (l : List (Nat × Nat)) : (txKeys l).length = l.length := by simp [txKeys]
theorem txGet_set (l : List (Nat × Nat)) (off v x : Nat) : txGet (txSet l off v) x = if x = off then some v else txGet l x := by
  induction l with
  | nil =>
    unfold txSet txGet
    by_cases e : off = x
    · rw [if_pos e, if_pos e.symm]
    · rw [if_neg e, if_neg (fun h => e h.symm)]; rfl
  | cons p r ih =>
    unfold txSet
    by_cases e : p.1 = off
    · rw [if_pos e]
      unfold txGet
      by_cases e2 : x = off
      · subst e2; simp
      · rw [if_neg (fun h => e2 h.symm), if_neg e2]
        by_cases e3 : p.1 = x
        · omega
        · rw [if_neg e3]
    · rw [if_neg e]
      unfold txGet
      by_cases e3 : p.1 = x
      · rw [if_pos e3, if_pos e3, if_neg (by omega)]
      · rw [if_neg e3, if_neg e3, ih]
theorem txGet_none {l : List (Nat × Nat)} {x : Nat} : txGet l x = none ↔ x ∉ txKeys l := by
  induction l with
  | nil => simp [txGet, txKeys]
  | cons p r ih =>
    unfold txGet
    by_cases e : p.1 = x
    · rw [if_pos e]; simp [txKeys, e]
    · rw [if_neg e, ih]
      simp only [txKeys, List.map_cons, List.mem_cons, not_or]
      exact ⟨fun h => ⟨fun h2 => e h2.symm, h⟩, fun h => h.2⟩
theorem txSet_new {l : List (Nat × Nat)} {off : Nat} (v : Nat) (h : txGet l off = none) : txSet l off v = l ++ [(off, v)] := by
  induction l with
  | nil => rfl
  | cons p r ih =>
    unfold txGet at h
    by_cases e : p.1 = off
    · rw [if_pos e] at h; cases h
    · rw [if_neg e] at h
      unfold txSet
      rw [if_neg e, ih h]
      rfl
theorem txKeys_old {l : List (Nat × Nat)} {off : Nat} (v : Nat) (h : txGet l off ≠ none) : txKeys (txSet l off v) = txKeys l := by
  induction l with
  | nil => exact absurd rfl h
  | cons p r ih =>
    unfold txSet
    by_cases e : p.1 = off
    · rw [if_pos e]; simp [txKeys, e]
    · rw [if_neg e]
      unfold txGet at h
      rw [if_neg e] at h
      have := ih h
      simp only [txKeys, List.map_cons] at this ⊢
      rw [this]
theorem txKeys_new {l : List (Nat × Nat)} {off : Nat} (v : Nat) (h : txGet l off = none) : txKeys (txSet l off v) = txKeys l ++ [off] := by
  rw [txSet_new v h]; simp [txKeys]
theorem txSet_len (l : List (Nat × Nat)) (off v : Nat) : (txSet l off v).length = if (txGet l off).isSome then l.length else l.length + 1 := by
  rcases e : txGet l off with _ | y
  · rw [txSet_new v e]; simp
  · have := congrArg List.length (txKeys_old v (l := l) (off := off) (by rw [e]; simp))
    rw [txKeys_len, txKeys_len] at this
    simpa using this
theorem txSet_mem {l : List (Nat × Nat)} {off v : Nat} {p : Nat × Nat} (h : p ∈ txSet l off v) : p = (off, v) ∨ p ∈ l := by
  induction l with
  | nil => left; simpa [txSet] using h
  | cons q r ih =>
    unfold txSet at h
    by_cases e : q.1 = off
    · rw [if_pos e] at h
      rcases List.mem_cons.1 h with h | h
      · exact .inl h
      · exact .inr (List.mem_cons_of_mem _ h)
    · rw [if_neg e] at h
      rcases List.mem_cons.1 h with h | h
      · exact .inr (by rw [h]; exact List.mem_cons_self)
      · rcases ih h with h | h
        · exact .inl h
        · exact .inr (List.mem_cons_of_mem _ h)
theorem txGet_mem {l : List (Nat × Nat)} {off v : Nat} (h : txGet l off = some v) : (off, v) ∈ l := by
  induction l with
  | nil => cases h
  | cons q r ih =>
    unfold txGet at h
    by_cases e : q.1 = off
    · rw [if_pos e] at h
      injection h with h
      obtain ⟨a, b⟩ := q
      simp only at e h
      subst e; subst h
      exact List.mem_cons_self
    · rw [if_neg e] at h
      exact List.mem_cons_of_mem _ (ih h)
theorem txGet_of_mem {l : List (Nat × Nat)} (hn : (txKeys l).Nodup) {p : Nat × Nat} (h : p ∈ l) : txGet l p.1 = some p.2 := by
  induction l with
  | nil => cases h
  | cons q r ih =>
    simp only [txKeys, List.map_cons] at hn
    obtain ⟨h1, h2⟩ := List.nodup_cons.1 hn
    unfold txGet
    rcases List.mem_cons.1 h with h | h
    · rw [← h, if_pos rfl]
    · rw [if_neg (fun e => h1 (by rw [e]; exact List.mem_map_of_mem h)), ih h2 h]
structure TxOk (ws : List Nat) (l : List (Nat × Nat)) : Prop where
  once : (txKeys l).Nodup
  stand : ∀ p ∈ l, stands ws p.1
  word : ∀ p ∈ l, p.2 < 18446744073709551616
theorem TxOk.empty (ws : List Nat) : TxOk ws [] := ⟨List.nodup_nil, (fun p h => absurd h List.not_mem_nil), (fun p h => absurd h List.not_mem_nil)⟩
theorem TxOk.set {ws : List Nat} {l : List (Nat × Nat)} (h : TxOk ws l) {off v : Nat} (ho : stands ws off) (hv : v < 18446744073709551616) : TxOk ws (txSet l off v) where
  once := by
    rcases e : txGet l off with _ | y
    · rw [txKeys_new v e, List.nodup_append]
      refine ⟨h.once, by simp, fun a ha b hb => ?_⟩
      have hb' : b = off := by simpa using hb
      intro e2
      rw [e2, hb'] at ha
      exact txGet_none.1 e ha
    · rw [txKeys_old v (by rw [e]; simp)]
      exact h.once
  stand := fun p hp => by
    rcases txSet_mem hp with rfl | hp
    · exact ho
    · exact h.stand p hp
  word := fun p hp => by
    rcases txSet_mem hp with rfl | hp
    · exact hv
    · exact h.word p hp
theorem nodup_below : ∀ (m : Nat) (l : List Nat), l.Nodup → (∀ x ∈ l, x < m) → l.length ≤ m
  | 0, l, _, h => by
    rcases l with _ | ⟨x, r⟩
    · simp
    · exact absurd (h x List.mem_cons_self) (by omega)
  | m + 1, l, hn, h => by
    have ih := nodup_below m (l.erase m) (hn.erase m) (fun x hx => by
      have h1 := h x (List.mem_of_mem_erase hx)
      have h2 : x ≠ m := fun e => by
        subst e
        exact (List.Nodup.not_mem_erase hn) hx
      omega)
    have := List.length_erase (a := m) (l := l)
    split at this <;> omega
theorem nodup_map {α β : Type} {f : α → β} {l : List α} (hf : ∀ a ∈ l, ∀ b ∈ l, f a = f b → a = b) (h : l.Nodup) : (l.map f).Nodup := by
  induction l with
  | nil => simp
  | cons a r ih =>
    obtain ⟨h1, h2⟩ := List.nodup_cons.1 h
    rw [List.map_cons, List.nodup_cons]
    refine ⟨fun hm => ?_, ih (fun x hx y hy => hf x (List.mem_cons_of_mem _ hx) y (List.mem_cons_of_mem _ hy)) h2⟩
    obtain ⟨b, hb, e⟩ := List.mem_map.1 hm
    have := hf b (List.mem_cons_of_mem _ hb) a List.mem_cons_self e
    exact h1 (this ▸ hb)
theorem TxOk.len {ws : List Nat} {l : List (Nat × Nat)} (h : TxOk ws l) : l.length ≤ ws.length := by
  have h1 : ((txKeys l).map (· / 8)).Nodup := nodup_map (fun a ha b hb e => by
    obtain ⟨p, hp, rfl⟩ := List.mem_map.1 ha
    obtain ⟨q, hq, rfl⟩ := List.mem_map.1 hb
    have := (h.stand p hp).1
    have := (h.stand q hq).1
    omega) h.once
  have := nodup_below ws.length _ h1 (fun x hx => by
    obtain ⟨y, hy, rfl⟩ := List.mem_map.1 hx
    obtain ⟨p, hp, rfl⟩ := List.mem_map.1 hy
    have := (h.stand p hp).2
    omega)
  simpa [txKeys] using this
theorem TxOk.off_lt {ws : List Nat} {l : List (Nat × Nat)} (h : TxOk ws l) (hm : ws.length ≤ 131072) : ∀ p ∈ l, p.1 < 1048576 := fun p hp => by
  have := (h.stand p hp).2
  omega
theorem TxOk.put {ws : List Nat} {l : List (Nat × Nat)} (h : TxOk ws l) (off v : Nat) : TxOk (put ws off v) l :=
  ⟨h.once, fun p hp => by have := h.stand p hp; unfold stands at this ⊢; rwa [put_len], h.word⟩
def txSee (ws : List Nat) (l : List (Nat × Nat)) (off : Nat) : Nat := (txGet l off).getD (getW ws off)
def txStore (ws : List Nat) (l : List (Nat × Nat)) (off v : Nat) : List (Nat × Nat) := if stands ws off then txSet l off v else l
theorem TxOk.store {ws : List Nat} {l : List (Nat × Nat)} (h : TxOk ws l) (off : Nat) {v : Nat} (hv : v < 18446744073709551616) : TxOk ws (txStore ws l off v) := by
  unfold txStore
  split
  · exact h.set ‹_› hv
  · exact h
theorem txSee_lt {ws : List Nat} {l : List (Nat × Nat)} (hw : ∀ x ∈ ws, x < 18446744073709551616) (h : TxOk ws l) (off : Nat) : txSee ws l off < 18446744073709551616 := by
  unfold txSee
  rcases e : txGet l off with _ | y
  · exact getW_lt hw off
  · exact h.word _ (txGet_mem e)
theorem key_lit (x : Int) : WideAt.IsKeyLit (.int .u64 x) := by simp [WideAt.IsKeyLit]
structure Says (D : DataW Unit) (l : List (Nat × Nat)) : Prop where
  size : Maps.size D = l.length
  has : ∀ x : Nat, Maps.has D (.int .u64 x) = (txGet l x).isSome
  at_ : ∀ x : Nat, D.atKey (.int .u64 x) (.lit (.int .u64 0)) = .lit (.int .u64 ((txGet l x).getD 0 : Nat))
theorem Says.empty : Says (.map []) [] := ⟨rfl, fun _ => rfl, fun _ => rfl⟩
theorem Says.put {D : DataW Unit} {l : List (Nat × Nat)} (h : Says D l) (ht : Maps.Tidy D) (off v : Nat) : Says (D.put (.int .u64 off) (.lit (.int .u64 v))) (txSet l off v) where
  size := by rw [Maps.size_put ht, txSet_len, h.size, h.has off]
  has := fun x => by
    rw [txGet_set]
    by_cases e : x = off
    · subst e
      rw [if_pos rfl, Maps.has_put_same ht.isMap (key_lit _)]; rfl
    · rw [if_neg e, Maps.has_put_other (fun h => e (by injection h with _ h; omega)), h.has x]
  at_ := fun x => by
    rw [txGet_set]
    by_cases e : x = off
    · subst e
      rw [if_pos rfl, Maps.atKey_put_same ht.isMap (key_lit _)]; rfl
    · rw [if_neg e, Maps.atKey_put_other (fun h => e (by injection h with _ h; omega)), h.at_ x]
def MapAt (w : World) (M : Nat) (l : List (Nat × Nat)) : Prop := ∃ D : DataW Unit, w.ownsMap Tryz.prog 22 (plainElem Tryz.prog 22) M l.length D ∧ Says D l
theorem keyed_u64 : Maps.Keyed Tryz.prog 22 := Maps.int_keyed Tryz.underlying22
theorem zero_u64 (w : World) : (zeroValue 22).run Tryz.prog w = .ok (.int .u64 0) w := by kernel_rfl
theorem wf_u64 (x : Nat) (h : x < 18446744073709551616) : (Lit.int .u64 (x : Int)).wf = true :=
  WalkArith.wf_u64 (by omega)
theorem key_u64 (x : Nat) (h : x < 18446744073709551616) : keyOf Tryz.prog 22 (.int .u64 x) = some (.int .u64 x) := Maps.keyOf_int_mk Tryz.underlying22 (wf_u64 x h)
structure Thinks (w : World) (T M : Nat) (R : Option Nat) (B D : Nat) (ws : List Nat) (l : List (Nat × Nat)) : Prop where
  seg : IsSeg w B D ws
  head : ∃ tv, w.heap[T]? = some (.cells #[.pointer (some ⟨B, 0, none⟩), .map (some M), tv] 109 (0, 0)) ∧ OwnW w 0 tv (txKeys l) ∧ tv.ownBlock = R
  map : MapAt w M l
  ok : TxOk ws l
def foot (T M : Nat) (R : Option Nat) : Nat → Prop := fun k => k = T ∨ k = M ∨ R = some k
section
variable {w w' : World} {T M : Nat} {R : Option Nat} {B D : Nat} {ws : List Nat} {l : List (Nat × Nat)}
theorem Thinks.row (h : Thinks w T M R B D ws l) {g : Nat} (hR : R = some g) : ∃ cur, w.heap[g]? = some (.cells cur 22 (0, 0)) := by
  obtain ⟨tv, _, h2, h3⟩ := h.head
  exact (row_block h2 (h3.trans hR)).2
theorem Thinks.ltR (h : Thinks w T M R B D ws l) {g : Nat} (hR : R = some g) : g < w.heap.size := by
  obtain ⟨cur, h1⟩ := h.row hR
  exact lt_of_block h1
theorem Thinks.turned (h : Thinks w T M R B D ws l) {p : Nat → Prop} (ht : Turned p w w') (hf : ∀ k, p k → ¬ foot T M R k ∧ k ≠ B ∧ k ≠ D) : Thinks w' T M R B D ws l where
  seg := h.seg.turned ht (fun hp => (hf _ hp).2.1 rfl) (fun hp => (hf _ hp).2.2 rfl)
  head := by
    obtain ⟨tv, h1, h2, h3⟩ := h.head
    exact ⟨tv, ht.heap h1 (fun hp => (hf _ hp).1 (.inl rfl)), row_turned h2 ht (fun g hg hp => (hf _ hp).1 (.inr (.inr (h3.symm.trans hg)))), h3⟩
  map := by
    obtain ⟨Da, h1, h2⟩ := h.map
    exact ⟨Da, map_turned h1 ht (fun hp => (hf _ hp).1 (.inr (.inl rfl))), h2⟩
  ok := h.ok
theorem Thinks.later (h : Thinks w T M R B D ws l) (hg : w.grownBy w' none) : Thinks w' T M R B D ws l := h.turned (Turned.of_none hg (fun _ => False)) (fun _ hf => hf.elim)
end
def Thought (w : World) (T M : Nat) (R : Option Nat) (B D : Nat) (ws : List Nat) (l' : List (Nat × Nat)) (w' : World) : Prop :=
  ∃ R', Thinks w' T M R' B D ws l' ∧ Turned (foot T M R) w w' ∧ (R' = R ∨ ∃ g, R' = some g ∧ w.heap.size ≤ g)
end Go.Proofs.YtmcnpenihoaajaaGreat
namespace Go.Proofs.YtmcnpenihoaajaaGreat
open Go.RowKit
theorem txnew_nil (w : World) : Calls Tryz.prog 26 #[.pointer none] w fun e w' => e = .returned (.pointer none) ∧ w = w' := by
  go_enter Tryz.func26, Tryz.ntmps26
  go_wp2
  go_ret
  exact ⟨rfl, rfl⟩
theorem txnew_yes {w : World} {B D : Nat} {ws : List Nat} (h : IsSeg w B D ws) :
    Calls Tryz.prog 26 #[.pointer (some ⟨B, 0, none⟩)] w fun e w' => e = .returned (.pointer (some ⟨w.heap.size + 1, 0, none⟩)) ∧ w.grownBy w' none ∧ Thinks w' (w.heap.size + 1) w.heap.size none B D ws [] := by
  have hmm := @run_makeMap Tryz.prog
  go_enter Tryz.func26, Tryz.ntmps26
  go_wp2
  go_ret
  have hg : w.grownBy ((w.alloc (.map #[] 0)).alloc (.cells #[.pointer (some ⟨B, 0, none⟩), .map (some w.heap.size), .slice none 0 0] 109)) none := grown_trans (World.grownBy_alloc _ _ _) (World.grownBy_alloc _ _ _)
  refine ⟨rfl, hg, h.later hg, ⟨.slice none 0 0, ?_, World.ownsRow_nil _ _ _ _, rfl⟩, ⟨.map [], World.ownsMap.alloc (World.ownsMap_made _ _ _ _) _, Says.empty⟩, TxOk.empty _⟩
  have := heap_alloc_new' (w.alloc (.map #[] 0)) (.cells #[.pointer (some ⟨B, 0, none⟩), .map (some w.heap.size), .slice none 0 0] 109)
  rw [World.size_alloc] at this
  exact this
theorem txsize_nil (w : World) : Calls Tryz.prog 118 #[.pointer none] w fun e w' => e = .returned (.int .u64 0) ∧ w = w' := by
  go_enter Tryz.func118, Tryz.ntmps118
  go_wp2
  go_ret
  exact ⟨rfl, rfl⟩
section
variable {w : World} {T M : Nat} {R : Option Nat} {B D : Nat} {ws : List Nat} {l : List (Nat × Nat)}
theorem Thinks.cells (h : Thinks w T M R B D ws l) : ∃ tv, w.cell? ⟨T, 0, none⟩ = some (.pointer (some ⟨B, 0, none⟩)) ∧ w.cell? ⟨T, 1, none⟩ = some (.map (some M)) ∧ w.cell? ⟨T, 2, none⟩ = some tv ∧ w.frozen? ⟨T, 2, none⟩ = false ∧ OwnW w 0 tv (txKeys l) ∧ tv.ownBlock = R := by
  obtain ⟨tv, h1, h2, h3⟩ := h.head
  exact ⟨tv, by simp [World.cell?, h1], by simp [World.cell?, h1], by simp [World.cell?, h1], by simp [World.frozen?, h1], h2, h3⟩
theorem txsize_any (h : Thinks w T M R B D ws l) :
    Calls Tryz.prog 118 #[.pointer (some ⟨T, 0, none⟩)] w fun e w' => e = .returned (.int .u64 (8 * ws.length : Nat)) ∧ w = w' := by
  obtain ⟨tv, c0, _⟩ := h.cells
  have hs := size_any (.inr ⟨B, D, rfl, h.seg⟩)
  have hm := h.seg.most
  go_enter Tryz.func118, Tryz.ntmps118
  go_wp2_with (go_at_call 18; refine hs.mono ?_; rintro e w' ⟨rfl, rfl⟩)
  go_ret
  exact ⟨rfl, rfl⟩
theorem txold_any (h : Thinks w T M R B D ws l) (off : Nat) (ho : off < 18446744073709551616) :
    Calls Tryz.prog 106 #[.pointer (some ⟨T, 0, none⟩), .int .u64 off] w fun e w' => e = .returned (.int .u64 (getW ws off : Nat)) ∧ w.grownBy w' none := by
  obtain ⟨tv, c0, _⟩ := h.cells
  have hl := load_any (.inr ⟨B, D, rfl, h.seg⟩) off ho
  go_enter Tryz.func106, Tryz.ntmps106
  go_wp2_with (go_at_call 32; refine hl.mono ?_; rintro e w1 ⟨rfl, hg1⟩)
  go_ret
  exact ⟨rfl, hg1⟩
theorem seen_int {off : Nat} {c : Int} {Da : DataW Unit} (hs : Says Da l) (hat : Da.atKey (.int .u64 off) (.lit (.int .u64 0)) = .lit (.int .u64 c)) : c = ((txGet l off).getD 0 : Nat) := by
  rw [hs.at_ off] at hat
  injection hat with hat
  injection hat with _ hat
  exact hat.symm
theorem txload_any (h : Thinks w T M R B D ws l) (off : Nat) (ho : off < 18446744073709551616) :
    Calls Tryz.prog 66 #[.pointer (some ⟨T, 0, none⟩), .int .u64 off] w fun e w' => e = .returned (.int .u64 (txSee ws l off : Nat)) ∧ w.grownBy w' none := by
  obtain ⟨tv, c0, c1, _⟩ := h.cells
  obtain ⟨Da, hown, hs⟩ := h.map
  have hhas := hs.has off
  have hold := txold_any h off ho
  rcases e : txGet l off with _ | y
  · rw [e] at hhas
    have hsee : txSee ws l off = getW ws off := by unfold txSee; rw [e]; rfl
    rw [hsee]
    have HH := Lib.hid hhas
    clear hhas e hsee h
    go_enter Tryz.func66, Tryz.ntmps66
    go_wp2_with (first | (at_lookup; refine wpList_lookup_own_ok_int _ rfl _ _ 107 rfl 22 22 .u64 keyed_u64 Tryz.underlying107 Tryz.underlying22 (zero_u64 _) M _ Da rfl hown _ _ rfl (key_u64 off ho) ?_; intro c hat hwc; rw [HH.out]) | (go_at_call 106; refine hold.mono ?_; rintro e w1 ⟨rfl, hg1⟩))
    go_ret
    exact ⟨rfl, hg1⟩
  · rw [e] at hhas
    have hsee : txSee ws l off = y := by unfold txSee; rw [e]; rfl
    have hy := fun c h => seen_int (off := off) (c := c) hs h
    rw [e] at hy
    rw [hsee]
    have HH := Lib.hid hhas
    have HY := Lib.hid hy
    clear hhas e hsee h hy
    go_enter Tryz.func66, Tryz.ntmps66
    go_wp2_with (first | (at_lookup; refine wpList_lookup_own_ok_int _ rfl _ _ 107 rfl 22 22 .u64 keyed_u64 Tryz.underlying107 Tryz.underlying22 (zero_u64 _) M _ Da rfl hown _ _ rfl (key_u64 off ho) ?_; intro c hat hwc; rw [HH.out]; obtain rfl := HY.out c hat))
    go_ret
    exact ⟨rfl, grown_refl _ _⟩
end
theorem txload_nil (off : Nat) (w : World) : Calls Tryz.prog 66 #[.pointer none, .int .u64 off] w fun e w' => e = .returned (.int .u64 0) ∧ w = w' := by
  go_enter Tryz.func66, Tryz.ntmps66
  go_wp2
  go_ret
  exact ⟨rfl, rfl⟩
end Go.Proofs.YtmcnpenihoaajaaGreat
namespace Go.Proofs.YtmcnpenihoaajaaGreat
open Go.RowKit
section
variable {w w1 w3 w5 : World} {T M : Nat} {R : Option Nat} {B D : Nat} {ws : List Nat} {l l' : List (Nat × Nat)}
theorem Thought.same (h : Thinks w T M R B D ws l) (hg : w.grownBy w1 none) : Thought w T M R B D ws l w1 := ⟨R, h.later hg, Turned.of_none hg _, .inl rfl⟩
theorem Thought.first (hg : w.grownBy w1 none) (h : Thought w1 T M R B D ws l w3) : Thought w T M R B D ws l w3 := by
  obtain ⟨R', h1, h2, h3⟩ := h
  refine ⟨R', h1, Turned.first hg h2, ?_⟩
  rcases h3 with h3 | ⟨g, h3, h4⟩
  · exact .inl h3
  · exact .inr ⟨g, h3, Nat.le_trans hg.size h4⟩
theorem Thought.later (h : Thought w T M R B D ws l w1) (hg : w1.grownBy w3 none) : Thought w T M R B D ws l w3 := by
  obtain ⟨R', h1, h2, h3⟩ := h
  exact ⟨R', h1.later hg, h2.later hg, h3⟩
theorem foot_new {R' : Option Nat} {n : Nat} (h : R' = R ∨ ∃ g, R' = some g ∧ n ≤ g) {k : Nat} (hk : foot T M R' k) : foot T M R k ∨ n ≤ k := by
  rcases hk with hk | hk | hk
  · exact .inl (.inl hk)
  · exact .inl (.inr (.inl hk))
  · rcases h with rfl | ⟨g, rfl, hg⟩
    · exact .inl (.inr (.inr hk))
    · injection hk with hk
      subst hk
      exact .inr hg
theorem Thought.trans {R' : Option Nat} (ht : Turned (foot T M R) w w1) (hr : R' = R ∨ ∃ g, R' = some g ∧ w.heap.size ≤ g) (h : Thought w1 T M R' B D ws l w3) : Thought w T M R B D ws l w3 := by
  obtain ⟨R2, h1, h2, h3⟩ := h
  refine ⟨R2, h1, ht.trans h2 fun i hi => foot_new hr hi, ?_⟩
  rcases h3 with rfl | ⟨g, rfl, hg⟩
  · exact hr
  · exact .inr ⟨g, rfl, Nat.le_trans ht.size hg⟩
end
end Go.Proofs.YtmcnpenihoaajaaGreat
namespace Go.Proofs.YtmcnpenihoaajaaGreat
open Go.RowKit Go.Shelf
attribute [local go_sem] Oper.semAt_some
def txX (l : List (Nat × Nat)) (k : Nat) : Nat := (l.getD k (0, 0)).1
def txV (l : List (Nat × Nat)) (k : Nat) : Nat := (l.getD k (0, 0)).2
theorem getD_mem {α : Type} {l : List α} {k : Nat} (d : α) (h : k < l.length) : l.getD k d ∈ l := by
  rw [List.getD_eq_getElem?_getD, List.getElem?_eq_getElem h]
  exact List.getElem_mem h
theorem TxOk.getD {ws : List Nat} {l : List (Nat × Nat)} (h : TxOk ws l) {k : Nat} (hk : k < l.length) : txGet l (txX l k) = some (txV l k) :=
  txGet_of_mem h.once (getD_mem (0, 0) hk)
theorem TxOk.lt {ws : List Nat} {l : List (Nat × Nat)} (h : TxOk ws l) (hm : ws.length ≤ 131072) (k : Nat) : txX l k < 18446744073709551616 ∧ txV l k < 18446744073709551616 := by
  unfold txX txV
  rcases Nat.lt_or_ge k l.length with hk | hk
  · have := getD_mem (0, 0) hk
    exact ⟨by have := h.off_lt hm _ this; omega, h.word _ this⟩
  · rw [List.getD_eq_getElem?_getD, List.getElem?_eq_none hk]
    exact ⟨by decide, by decide⟩
structure TxMem (w : World) (T M : Nat) (R : Option Nat) (B : Nat) (tv : Value) (l : List (Nat × Nat)) : Prop where
  head : w.heap[T]? = some (.cells #[.pointer (some ⟨B, 0, none⟩), .map (some M), tv] 109 (0, 0))
  row : OwnW w 0 tv (txKeys l)
  own : tv.ownBlock = R
  map : MapAt w M l
theorem Thinks.mem {w : World} {T M : Nat} {R : Option Nat} {B D : Nat} {ws : List Nat} {l : List (Nat × Nat)} (h : Thinks w T M R B D ws l) : ∃ tv, TxMem w T M R B tv l := by
  obtain ⟨tv, h1, h2, h3⟩ := h.head
  exact ⟨tv, h1, h2, h3, h.map⟩
end Go.Proofs.YtmcnpenihoaajaaGreat
namespace Go.Proofs.YtmcnpenihoaajaaGreat
open Go.RowKit Go.Shelf
attribute [local go_sem] Oper.semAt_some
theorem cells_two_new (W : World) (t : TypeId) (x y : Value) : ∀ j u, [x, y][j]? = some u → (W.alloc (.cells #[x, y] t)).cell? ((⟨W.heap.size, 0, none⟩ : Addr).add j) = some u := by
  intro j u hj
  have hb : (W.alloc (.cells #[x, y] t)).heap[W.heap.size]? = some (.cells #[x, y] t (0, 0)) := heap_alloc_new' _ _
  have hadd : ∀ j, (⟨W.heap.size, 0, none⟩ : Addr).add j = ⟨W.heap.size, j, none⟩ := fun j => by unfold Addr.add; split <;> simp_all
  rw [hadd]
  unfold World.cell?
  simp only [hb]
  rcases j with _ | _ | j
  · simp at hj; subst hj; rfl
  · simp at hj; subst hj; rfl
  · simp at hj
section
variable {w : World} {T M : Nat} {R : Option Nat} {B D : Nat} {ws : List Nat} {l : List (Nat × Nat)}
end
end Go.Proofs.YtmcnpenihoaajaaGreat
namespace Go.Proofs.YtmcnpenihoaajaaGreat
open Go.RowKit
structure Txs (w0 w : World) (T M : Nat) (R : Option Nat) (B D : Nat) (ws : List Nat) (l : List (Nat × Nat)) : Prop where
  tx : Thinks w T M R B D ws l
  since : w0.grownBy w none
  newT : w0.heap.size ≤ T
  newM : w0.heap.size ≤ M
  newR : ∀ g, R = some g → w0.heap.size ≤ g
  newB : w0.heap.size ≤ B
  newD : w0.heap.size ≤ D
section
variable {w0 w w' : World} {T M : Nat} {R : Option Nat} {B D : Nat} {ws ws' : List Nat} {l l' : List (Nat × Nat)}
theorem Txs.later (h : Txs w0 w T M R B D ws l) (hg : w.grownBy w' none) : Txs w0 w' T M R B D ws l :=
  ⟨h.tx.later hg, grown_trans h.since hg, h.newT, h.newM, h.newR, h.newB, h.newD⟩
theorem Txs.foot_new (h : Txs w0 w T M R B D ws l) {k : Nat} (hk : foot T M R k) : w0.heap.size ≤ k := by
  rcases hk with rfl | rfl | hk
  · exact h.newT
  · exact h.newM
  · exact h.newR _ hk
theorem Txs.step (h : Txs w0 w T M R B D ws l) (ht : Thought w T M R B D ws l' w') :
    ∃ R', Txs w0 w' T M R' B D ws l' ∧ Turned (foot T M R) w w' ∧ (R' = R ∨ ∃ g, R' = some g ∧ w.heap.size ≤ g) := by
  obtain ⟨R', h1, h2, h3⟩ := ht
  refine ⟨R', ⟨h1, ?_, h.newT, h.newM, ?_, h.newB, h.newD⟩, h2, h3⟩
  · exact ((Turned.of_none h.since (foot T M R)).trans h2 (fun i hi => .inl hi)).grown (fun i hi => h.foot_new hi)
  · intro g hg
    rcases h3 with rfl | ⟨g', rfl, hg'⟩
    · exact h.newR g hg
    · injection hg with hg
      subst hg
      exact Nat.le_trans h.since.size hg'
theorem Txs.seg (h : Txs w0 w T M R B D ws l) (hg : w.grownBy w' (some D)) (ht : Thinks w' T M R B D ws' l) : Txs w0 w' T M R B D ws' l :=
  ⟨ht, grown_step h.since hg (fun i hi => .inl (by injection hi with hi; subst hi; exact h.newD)), h.newT, h.newM, h.newR, h.newB, h.newD⟩
end
section
variable {w w' : World} {T M : Nat} {R : Option Nat} {B D : Nat} {ws : List Nat} {l : List (Nat × Nat)}
theorem Thinks.far (h : Thinks w T M R B D ws l) {b : Nat} {c : Array Value} {t : TypeId} {fr : Nat × Nat} (hb : w.heap[b]? = some (.cells c t fr)) (h1 : t ≠ 109) (h2 : t ≠ 22) : ¬ foot T M R b := by
  obtain ⟨tv, k1, _⟩ := h.head
  obtain ⟨Da, k2, _⟩ := h.map
  obtain ⟨es, clock, k2⟩ := map_block k2
  rintro (e | e | e)
  · exact ne_type hb k1 h1 e
  · exact ne_map hb k2 e
  · obtain ⟨c2, hr⟩ := h.row e
    exact ne_type hb hr h2 rfl
end
end Go.Proofs.YtmcnpenihoaajaaGreat
namespace Go.Proofs.YtmcnpenihoaajaaGreat
open Go.RowKit
theorem Txs.other {w0 w w' : World} {T M : Nat} {R : Option Nat} {B D : Nat} {ws : List Nat} {l : List (Nat × Nat)} (h : Txs w0 w T M R B D ws l) {b : Nat} {c : Array Value} (hb : w.heap[b]? = some (.cells c 69 (0, 0))) (hn : w0.heap.size ≤ b) (hg : w.grownBy w' (some b)) : Txs w0 w' T M R B D ws l where
  tx := h.tx.turned (Turned.of_grown hg) (fun k hk => by
    injection hk with hk
    subst hk
    exact ⟨h.tx.far hb (by decide) (by decide), fun e => ne_type hb h.tx.seg.head (by decide) e, fun e => ne_type hb h.tx.seg.data (by decide) e⟩)
  since := grown_step h.since hg (fun i hi => .inl (by injection hi with hi; omega))
  newT := h.newT
  newM := h.newM
  newR := h.newR
  newB := h.newB
  newD := h.newD
theorem wv_form {w : World} {base : Nat} {v : Value} {ws : List Nat} (h : OwnW w base v ws) : ∃ a n c, v = .slice a n c := by
  obtain ⟨a, c, h⟩ := h.slice
  exact ⟨a, _, c, h⟩
end Go.Proofs.YtmcnpenihoaajaaGreat
namespace Go.Proofs.YtmcnpenihoaajaaGreat
open Go.RowKit
theorem stands_put' (ws : List Nat) (x y off : Nat) : stands (put ws x y) off ↔ stands ws off := by unfold stands; rw [put_len]
theorem getW_put' {ws : List Nat} {x : Nat} (y off : Nat) (h : stands ws x) : getW (put ws x y) off = if off = x then y else getW ws off := by
  by_cases ho : stands ws off
  · have h1 := (stands_put' ws x y off).2 ho
    unfold getW
    rw [if_pos h1, if_pos ho]
    unfold put
    rw [if_pos h]
    have hx := h.1
    have hx2 := h.2
    have ho1 := ho.1
    by_cases e : off = x
    · subst e
      rw [if_pos rfl, List.getD_eq_getElem?_getD, List.getElem?_set_self (by omega)]
      rfl
    · rw [if_neg e, List.getD_eq_getElem?_getD, List.getElem?_set_ne (by omega), List.getD_eq_getElem?_getD]
  · have e : off ≠ x := fun e => ho (e ▸ h)
    unfold getW
    rw [if_neg (fun h' => ho ((stands_put' ws x y off).1 h')), if_neg ho, if_neg e]
theorem TxOk.apart {ws : List Nat} {l : List (Nat × Nat)} (h : TxOk ws l) {i j : Nat} (hi : i < l.length) (hj : j < i) : txX l j ≠ txX l i := by
  have h1 : (txKeys l)[i]'(by rw [txKeys_len]; exact hi) = txX l i := by simp [txKeys, txX, List.getD_eq_getElem?_getD, List.getElem?_eq_getElem hi]
  have h2 : (txKeys l)[j]'(by rw [txKeys_len]; omega) = txX l j := by simp [txKeys, txX, List.getD_eq_getElem?_getD, List.getElem?_eq_getElem (Nat.lt_trans hj hi)]
  rw [← h1, ← h2]
  intro e
  have := (List.getElem_inj h.once).1 e
  omega
end Go.Proofs.YtmcnpenihoaajaaGreat
namespace Go.Proofs.YtmcnpenihoaajaaGreat
open Go.RowKit
section
variable {w wr w' : World} {T M B D bx : Nat} {wv : Value} {ws : List Nat} {l l' l2 : List (Nat × Nat)}
end
def KW (w : World) (R : Option Nat) (base : Nat) (v : Value) (xs : List Nat) : Prop := OwnW w base v xs ∧ ∀ g, v.ownBlock = some g → R ≠ some g
section
variable {w0 w w' w2 : World} {T : Nat} {R R' R2 : Option Nat} {ws : List Nat} {base : Nat} {v : Value} {xs : List Nat}
theorem KW.later (h : KW w R base v xs) (hg : w.grownBy w' none) : KW w' R base v xs := ⟨h.1.later hg, h.2⟩
theorem KW.mono {b : Nat} (h : KW w R base v xs) (hb : b ≤ base) : KW w R b v xs := ⟨h.1.mono hb, h.2⟩
end
end Go.Proofs.YtmcnpenihoaajaaGreat
