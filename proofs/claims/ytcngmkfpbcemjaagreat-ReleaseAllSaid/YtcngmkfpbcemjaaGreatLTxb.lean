/-
  Texts of one layer, one behind the other: memory, contracts of the functions, and what follows of them.
  Conditions: as each theorem says.
-/
import Derived.Test.YtcngmkfpbcemjaaGreatLTxa
import Derived.RangeFuncBox
import Derived.RangeFuncNested
import Derived.RangeFuncBound
import Derived.RangeFuncCalls
import Derived.RangeFuncLeaves
import Derived.Shelf.Abstract
import Derived.Shelf.RegionOpen
import Derived.OwnWalkIn
import Derived.TacticsInMore
import Derived.LoopNIn
import Derived.LoopIn
import Derived.Maps.OwnIn
import Derived.Laws.StructEq
import Derived.Deep.AppendLies
import Derived.Laws.AppendOwnNone
set_option linter.unusedVariables false
set_option linter.unusedSimpArgs false
namespace Go.Proofs.YtcngmkfpbcemjaaGreat
open Go.RowKit
theorem wpList_append_u64_at {w2 : World} {ops : Array Oper} {rest : List Oper} {o : Oper} {a : Act} {Q : Exit → Act → World → Prop} (hgd : o.guard = none) (s x : Operand)
    (ho : o.op = .call { callee := .builtin .append, args := #[s, x], argTypes := #[27, 27] })
    (base : Nat) (v : Value) (n : Nat) (xs : List Value) (hs : a.eval s = v) (hown : w2.ownsRow base 23 1 v n xs) (y : Int)
    (hx : a.eval x = .slice (some ⟨w2.heap.size, 0, none⟩) 1 1) (hn : n ≤ 1000000000) (hbase : base ≤ w2.heap.size)
    (h : ∀ v' w', w'.ownsRow base 23 1 v' (n + 1) (xs ++ [.int .u64 y]) → (w2.alloc (.cells #[.int .u64 y] 23)).grownBy w' v.ownBlock → (v'.ownBlock = v.ownBlock ∨ v'.ownBlock = some (w2.heap.size + 1)) → wpList Tryz.prog ops Q rest (a.put o.dst v') w') :
    wpList Tryz.prog ops Q (o :: rest) a (w2.alloc (.cells #[.int .u64 y] 23)) := by
  obtain ⟨i0, hi, hz0, hz1, hz2⟩ := info_parts info_u64
  refine wpList_append_own_at _ hgd s x 27 ho base 23 i0 (.int .u64 0) 1 8 Tryz.underlying27 hi hz0 hz1 hz2 rfl (by decide) v n xs hs (hown.alloc _) ⟨w2.heap.size, 0, none⟩ 1 1 [.int .u64 y] hx rfl ?_ ?_ ?_ ?_ ?_ fun v' w' h1 h2 _ h4 => h v' w' h1 h2 (by rw [World.size_alloc] at h4; exact h4)
  · intro j u hj
    rcases j with _ | j
    · simp at hj
      subst hj
      exact World.cell?_alloc_at _ _ _ _ rfl
    · simp at hj
  · intro u hu
    simp at hu
    subst hu
    rfl
  · unfold maxLen; omega
  · omega
  · rw [World.size_alloc]; omega
section
variable {w w1 w3 w5 : World} {T M : Nat} {R : Option Nat} {B D : Nat} {ws : List Nat} {l l' : List (Nat × Nat)}
theorem Thought.same (h : Thinks w T M R B D ws l) (hg : w.grownBy w1 none) : Thought w T M R B D ws l w1 := ⟨R, h.later hg, Turned.of_none hg _, .inl rfl⟩
theorem Thought.first (hg : w.grownBy w1 none) (h : Thought w1 T M R B D ws l w3) : Thought w T M R B D ws l w3 := by
  obtain ⟨R', h1, h2, h3⟩ := h
  refine ⟨R', h1, Turned.first hg h2, ?_⟩
  rcases h3 with h3 | ⟨g, h3, h4⟩
  · exact .inl h3
  · exact .inr ⟨g, h3, Nat.le_trans hg.size h4⟩
theorem Thought.later (h : Thought w T M R B D ws l w1) (hg : w1.grownBy w3 none) : Thought w T M R B D ws l w3 := by
  obtain ⟨R', h1, h2, h3⟩ := h
  exact ⟨R', h1.later hg, h2.later hg, h3⟩
theorem foot_new {R' : Option Nat} {n : Nat} (h : R' = R ∨ ∃ g, R' = some g ∧ n ≤ g) {k : Nat} (hk : foot T M R' k) : foot T M R k ∨ n ≤ k := by
  rcases hk with hk | hk | hk
  · exact .inl (.inl hk)
  · exact .inl (.inr (.inl hk))
  · rcases h with rfl | ⟨g, rfl, hg⟩
    · exact .inl (.inr (.inr hk))
    · injection hk with hk
      subst hk
      exact .inr hg
theorem Thought.trans {R' : Option Nat} (ht : Turned (foot T M R) w w1) (hr : R' = R ∨ ∃ g, R' = some g ∧ w.heap.size ≤ g) (h : Thought w1 T M R' B D ws l w3) : Thought w T M R B D ws l w3 := by
  obtain ⟨R2, h1, h2, h3⟩ := h
  refine ⟨R2, h1, ht.trans h2 fun i hi => foot_new hr hi, ?_⟩
  rcases h3 with rfl | ⟨g, rfl, hg⟩
  · exact hr
  · exact .inr ⟨g, rfl, Nat.le_trans ht.size hg⟩
theorem Thought.again (h : Thinks w T M R B D ws l) {Da : DataW Unit} (hown : w.ownsMap Tryz.prog 23 (plainElem Tryz.prog 23) M l.length Da) (hs : Says Da l) {off v y : Nat} (ho : stands ws off) (hv : v < 18446744073709551616) (hy : txGet l off = some y)
    (hown5 : w5.ownsMap Tryz.prog 23 (plainElem Tryz.prog 23) M (l.length + 1) (Da.put (.int .u64 off) (.lit (.int .u64 v)))) (hg : w.grownBy w5 (some M)) : Thought w T M R B D ws (txSet l off v) w5 := by
  have hsay := hs.put (hown.tidy keyed_u64) off v
  have ht : Turned (fun k => some M = some k) w w5 := Turned.of_grown hg
  obtain ⟨tv, h1, h2, h3⟩ := h.head
  have e1 : T ≠ M := h.neTM
  refine ⟨R, ⟨?_, ⟨tv, ht.heap h1 (by simpa using e1.symm), ?_, h3⟩, ⟨_, ?_, hsay⟩, h.ok.set ho hv⟩, ht.mono (fun k _ hk => .inr (.inl (by simpa using hk.symm))), .inl rfl⟩
  · exact h.seg.turned ht (fun e => h.notB (.inr (.inl (by injection e with e; exact e.symm)))) (fun e => h.notD (.inr (.inl (by injection e with e; exact e.symm))))
  · rw [txKeys_old v (by rw [hy]; simp)]
    exact row_turned h2 ht (fun g hg e => h.neMR (by rw [← h3, hg]; exact e.symm))
  · have := map_tight hown5
    rwa [hsay.size] at this
theorem turn_stored (h : Thinks w T M R B D ws l) {tv v' : Value} (h1 : w.heap[T]? = some (.cells #[.pointer (some ⟨B, 0, none⟩), .map (some M), tv] 109 (0, 0))) (h3 : tv.ownBlock = R) (y : Int)
    (hown3 : w3.ownsRow 0 23 1 v' (l.length + 1) (cellsU (txKeys l) ++ [.int .u64 y])) (hg : (w.alloc (.cells #[.int .u64 y] 23)).grownBy w3 tv.ownBlock) :
    w3.heap[T]? = some (.cells #[.pointer (some ⟨B, 0, none⟩), .map (some M), tv] 109 (0, 0)) ∧
    (∀ {Da : DataW Unit}, w.ownsMap Tryz.prog 23 (plainElem Tryz.prog 23) M l.length Da → (w3.setCell ⟨T, 2, none⟩ v').ownsMap Tryz.prog 23 (plainElem Tryz.prog 23) M l.length Da) ∧
    ∃ g cap, v' = .slice (some ⟨g, 0, none⟩) (l.length + 1) cap := by
  rw [h3] at hg
  have ha : w.grownBy (w.alloc (.cells #[.int .u64 y] 23)) none := World.grownBy_alloc _ _ _
  have hh := h.later ha
  refine ⟨(hg.block T (by have := h.ltT; rw [World.size_alloc]; omega) (fun e => h.neTR e.symm)).trans ((ha.block T h.ltT (by simp)).trans h1), fun hown => ?_, ?_⟩
  · refine World.ownsMap.setCell ((hown.kept ha (by simp)).kept hg ?_) (fun e => h.neTM e.symm) _
    intro e
    exact h.neMR e.symm
  · obtain ⟨g, cap, e⟩ := ownsRow_succ hown3
    exact ⟨g, cap, e⟩
theorem Thought.more (h : Thinks w T M R B D ws l) {tv v' : Value} (h1 : w.heap[T]? = some (.cells #[.pointer (some ⟨B, 0, none⟩), .map (some M), tv] 109 (0, 0))) (h3 : tv.ownBlock = R)
    {Da : DataW Unit} (hown : w.ownsMap Tryz.prog 23 (plainElem Tryz.prog 23) M l.length Da) (hs : Says Da l) {off v : Nat} (ho : stands ws off) (hv : v < 18446744073709551616) (hy : txGet l off = none)
    (hown3 : w3.ownsRow 0 23 1 v' (l.length + 1) (cellsU (txKeys l) ++ [.int .u64 (off : Nat)])) (hg : (w.alloc (.cells #[.int .u64 (off : Nat)] 23)).grownBy w3 tv.ownBlock)
    (hloc : v'.ownBlock = tv.ownBlock ∨ v'.ownBlock = some (w.heap.size + 1))
    (hown5 : w5.ownsMap Tryz.prog 23 (plainElem Tryz.prog 23) M (l.length + 1) (Da.put (.int .u64 off) (.lit (.int .u64 v)))) (hg5 : (w3.setCell ⟨T, 2, none⟩ v').grownBy w5 (some M)) : Thought w T M R B D ws (txSet l off v) w5 := by
  obtain ⟨t1, t2, _⟩ := turn_stored h h1 h3 _ hown3 hg
  have hsay := hs.put (hown.tidy keyed_u64) off v
  rw [h3] at hg hloc
  have ha : w.grownBy (w.alloc (.cells #[.int .u64 (off : Nat)] 23)) none := World.grownBy_alloc _ _ _
  have s3 : Turned (foot T M R) w w3 := (Turned.of_none ha (foot T M R)).trans (Turned.of_grown hg) (fun i hi => .inl (.inr (.inr hi)))
  have s4 : Turned (foot T M R) w (w3.setCell ⟨T, 2, none⟩ v') := s3.trans (Turned.of_grown (grown_set _ _ _ _)) (fun i hi => .inl (.inl (by injection hi with hi; exact hi.symm)))
  have s5 : Turned (foot T M R) w w5 := s4.trans (Turned.of_grown hg5) (fun i hi => .inl (.inr (.inl (by injection hi with hi; exact hi.symm))))
  have q5 : Turned (fun k => some M = some k) (w3.setCell ⟨T, 2, none⟩ v') w5 := Turned.of_grown hg5
  have hrow4 : (w3.setCell ⟨T, 2, none⟩ v').ownsRow 0 23 1 v' (l.length + 1) (cellsU (txKeys l) ++ [.int .u64 (off : Nat)]) :=
    row_turned hown3 (Turned.of_grown (grown_set w3 T 2 v')) (fun g hg' e => by
      injection e with e
      subst e
      obtain ⟨_, cur, h4⟩ := row_block hown3 hg'
      exact ne_type t1 h4 (by decide) rfl)
  have hT4 : (w3.setCell ⟨T, 2, none⟩ v').heap[T]? = some (.cells #[.pointer (some ⟨B, 0, none⟩), .map (some M), v'] 109 (0, 0)) := by
    rw [heap_setCell_same t1]; rfl
  have hT5 := q5.heap hT4 (by simpa using h.neTM.symm)
  obtain ⟨es, clock, hM4⟩ := map_block (t2 hown)
  have hrow5 : w5.ownsRow 0 23 1 v' (l.length + 1) (cellsU (txKeys l) ++ [.int .u64 (off : Nat)]) :=
    row_turned hrow4 q5 (fun g hg' e => by
      injection e with e
      subst e
      obtain ⟨_, cur, h4⟩ := row_block hrow4 hg'
      exact ne_map h4 hM4 rfl)
  refine ⟨v'.ownBlock, ⟨h.seg.turned s5 h.notB h.notD, ⟨v', hT5, ?_, rfl⟩, ⟨_, ?_, hsay⟩, h.ok.set ho hv⟩, s5, ?_⟩
  · unfold OwnW
    rw [txKeys_new v hy]
    have e2 : (txKeys l ++ [off]).length = l.length + 1 := by simp [txKeys]
    rw [e2]
    simpa [cellsU] using hrow5
  · have := map_tight hown5
    rwa [hsay.size] at this
  · rcases hloc with e | e
    · exact .inl e
    · exact .inr ⟨_, e, Nat.le_succ _⟩
set_option maxHeartbeats 1000000 in
theorem txstore_any (h : Thinks w T M R B D ws l) (off v : Nat) (ho : off < 18446744073709551616) (hv : v < 18446744073709551616) :
    Calls Tryz.prog 58 #[.pointer (some ⟨T, 0, none⟩), .int .u64 off, .int .u64 v] w fun e w' => e = .returned (.tuple #[]) ∧ Thought w T M R B D ws (txStore ws l off v) w' := by
  have hhas := txhas_any h off ho
  by_cases hs : stands ws off
  · rw [decide_eq_true hs] at hhas
    have e0 : txStore ws l off v = txSet l off v := by unfold txStore; rw [if_pos hs]
    rw [e0]
    have hlen := Nat.le_trans h.ok.len h.seg.most
    rcases e : txGet l off with _ | y
    · have HS := Lib.hid hs
      have HE := Lib.hid e
      clear hs e e0
      go_enter Tryz.func58, Tryz.ntmps58
      go_wp2_with (first | (go_at_call 99; refine hhas.mono ?_; rintro e w1 ⟨rfl, hg1⟩; have hT := h.later hg1; obtain ⟨tv, h1, h2, h3⟩ := hT.head; have c0 : w1.cell? ⟨T, 1, none⟩ = some (.map (some M)) := (by simp [World.cell?, h1]); have c2 : w1.cell? ⟨T, 2, none⟩ = some tv := (by simp [World.cell?, h1]); obtain ⟨Da, hown, hsay⟩ := hT.map; have HH := Lib.hid (hsay.has off); have H1 := Lib.hid h1; clear h1; have H3 := Lib.hid h3; clear h3) | (at_lookup; refine wpList_lookup_own_ok_int _ rfl _ _ 107 rfl 23 23 .u64 keyed_u64 Tryz.underlying107 Tryz.underlying23 (zero_u64 _) M _ Da rfl hown _ _ rfl (key_u64 off ho) ?_; intro c hat hwc; rw [HH.out, HE.out]) | (at_builtin; go_must (refine wpList_append_u64_at rfl _ _ rfl 0 tv l.length (cellsU (txKeys l)) rfl (by rw [← txKeys_len]; exact h2) _ rfl (by omega) (Nat.zero_le _) ?_); intro v' w3 hown3 hg4 hloc; obtain ⟨t1, t2, g', cap', hv'⟩ := turn_stored hT H1.out H3.out _ hown3 hg4; subst hv'; have c3 : w3.cell? ⟨T, 2, none⟩ = some tv := (by simp [World.cell?, t1]); have c4 : w3.cell? ⟨T, 1, none⟩ = some (.map (some M)) := (by simp [World.cell?, t1]); have f3 : w3.frozen? ⟨T, 2, none⟩ = false := (by simp [World.frozen?, t1]); have hown4 := t2 hown; have HL := Lib.hid hloc; clear t1 t2 hloc) | (at_mapUpdate; go_must (refine wpList_mapUpdate_own _ rfl _ _ _ 107 rfl 23 23 keyed_u64 Tryz.underlying107 _ M l.length _ rfl hown4 (by unfold maxLen; omega) _ _ _ rfl rfl (key_u64 off ho) _ [] (plainElem_int Tryz.underlying23 (wf_u64 v hv)) ?_); intro w5 hown5 hg5))
      go_end0
      exact ⟨rfl, Thought.first hg1 (Thought.more hT H1.out H3.out hown hsay HS.out hv HE.out hown3 hg4 HL.out hown5 hg5)⟩
    · have HS := Lib.hid hs
      have HE := Lib.hid e
      clear hs e e0
      go_enter Tryz.func58, Tryz.ntmps58
      go_wp2_with (first | (go_at_call 99; refine hhas.mono ?_; rintro e w1 ⟨rfl, hg1⟩; have hT := h.later hg1; obtain ⟨tv, h1, h2, h3⟩ := hT.head; have c0 : w1.cell? ⟨T, 1, none⟩ = some (.map (some M)) := (by simp [World.cell?, h1]); obtain ⟨Da, hown, hsay⟩ := hT.map; have HH := Lib.hid (hsay.has off); clear h1 h3) | (at_lookup; refine wpList_lookup_own_ok_int _ rfl _ _ 107 rfl 23 23 .u64 keyed_u64 Tryz.underlying107 Tryz.underlying23 (zero_u64 _) M _ Da rfl hown _ _ rfl (key_u64 off ho) ?_; intro c hat hwc; rw [HH.out, HE.out]) | (at_mapUpdate; go_must (refine wpList_mapUpdate_own _ rfl _ _ _ 107 rfl 23 23 keyed_u64 Tryz.underlying107 _ M l.length _ rfl hown (by unfold maxLen; omega) _ _ _ rfl rfl (key_u64 off ho) _ [] (plainElem_int Tryz.underlying23 (wf_u64 v hv)) ?_); intro w5 hown5 hg5))
      go_end0
      exact ⟨rfl, Thought.first hg1 (Thought.again hT hown hsay HS.out hv HE.out hown5 hg5)⟩
  · rw [decide_eq_false hs] at hhas
    have e0 : txStore ws l off v = l := by unfold txStore; rw [if_neg hs]
    rw [e0]
    clear hs e0
    go_enter Tryz.func58, Tryz.ntmps58
    go_wp2_with (go_at_call 99; refine hhas.mono ?_; rintro e w1 ⟨rfl, hg1⟩)
    refine bodyPost_ret (results_none rfl _ _ _) rfl ?_
    exact ⟨rfl, Thought.same h hg1⟩
end
end Go.Proofs.YtcngmkfpbcemjaaGreat
namespace Go.Proofs.YtcngmkfpbcemjaaGreat
open Go.RowKit Go.Shelf
attribute [local go_sem] Oper.semAt_some
def txX (l : List (Nat × Nat)) (k : Nat) : Nat := (l.getD k (0, 0)).1
def txV (l : List (Nat × Nat)) (k : Nat) : Nat := (l.getD k (0, 0)).2
theorem getD_mem {α : Type} {l : List α} {k : Nat} (d : α) (h : k < l.length) : l.getD k d ∈ l := by
  rw [List.getD_eq_getElem?_getD, List.getElem?_eq_getElem h]
  exact List.getElem_mem h
theorem TxOk.getD {ws : List Nat} {l : List (Nat × Nat)} (h : TxOk ws l) {k : Nat} (hk : k < l.length) : txGet l (txX l k) = some (txV l k) :=
  txGet_of_mem h.once (getD_mem (0, 0) hk)
theorem TxOk.lt {ws : List Nat} {l : List (Nat × Nat)} (h : TxOk ws l) (hm : ws.length ≤ 131072) (k : Nat) : txX l k < 18446744073709551616 ∧ txV l k < 18446744073709551616 := by
  unfold txX txV
  rcases Nat.lt_or_ge k l.length with hk | hk
  · have := getD_mem (0, 0) hk
    exact ⟨by have := h.off_lt hm _ this; omega, h.word _ this⟩
  · rw [List.getD_eq_getElem?_getD, List.getElem?_eq_none hk]
    exact ⟨by decide, by decide⟩
structure TxMem (w : World) (T M : Nat) (R : Option Nat) (B : Nat) (tv : Value) (l : List (Nat × Nat)) : Prop where
  head : w.heap[T]? = some (.cells #[.pointer (some ⟨B, 0, none⟩), .map (some M), tv] 109 (0, 0))
  row : OwnW w 0 tv (txKeys l)
  own : tv.ownBlock = R
  map : MapAt w M l
theorem Thinks.mem {w : World} {T M : Nat} {R : Option Nat} {B D : Nat} {ws : List Nat} {l : List (Nat × Nat)} (h : Thinks w T M R B D ws l) : ∃ tv, TxMem w T M R B tv l := by
  obtain ⟨tv, h1, h2, h3⟩ := h.head
  exact ⟨tv, h1, h2, h3, h.map⟩
end Go.Proofs.YtcngmkfpbcemjaaGreat
namespace Go.Proofs.YtcngmkfpbcemjaaGreat
open Go.RowKit Go.Shelf
attribute [local go_sem] Oper.semAt_some
theorem info_put : (Tryz.prog.info? 117).map (fun i => (i.zero, i.size, i.bytes)) = some (some (.agg #[.int .u64 0, .int .u64 0]), 2, 16) := by kernel_rfl
theorem cells_two_new (W : World) (t : TypeId) (x y : Value) : ∀ j u, [x, y][j]? = some u → (W.alloc (.cells #[x, y] t)).cell? ((⟨W.heap.size, 0, none⟩ : Addr).add j) = some u := by
  intro j u hj
  have hb : (W.alloc (.cells #[x, y] t)).heap[W.heap.size]? = some (.cells #[x, y] t (0, 0)) := heap_alloc_new' _ _
  have hadd : ∀ j, (⟨W.heap.size, 0, none⟩ : Addr).add j = ⟨W.heap.size, j, none⟩ := fun j => by unfold Addr.add; split <;> simp_all
  rw [hadd]
  unfold World.cell?
  simp only [hb]
  rcases j with _ | _ | j
  · simp at hj; subst hj; rfl
  · simp at hj; subst hj; rfl
  · simp at hj
def cellsP (l : List (Nat × Nat)) : List Value := l.flatMap fun p => [.int .u64 (p.1 : Nat), .int .u64 (p.2 : Nat)]
def OwnP (w : World) (base : Nat) (v : Value) (l : List (Nat × Nat)) : Prop := w.ownsRow base 117 2 v l.length (cellsP l)
section
variable {w : World} {T M : Nat} {R : Option Nat} {B D : Nat} {ws : List Nat} {l : List (Nat × Nat)}
end
end Go.Proofs.YtcngmkfpbcemjaaGreat
namespace Go.Proofs.YtcngmkfpbcemjaaGreat
open Go.RowKit
theorem rload_any {w : World} {base : Nat} {v : Value} {ws : List Nat} (h : OwnW w base v ws) (hm : ws.length ≤ 131072) (off : Nat) (ho : off < 18446744073709551616) :
    Calls Tryz.prog 100 #[v, .int .u64 off] w fun e w' => e = .returned (.tuple #[.int .u64 (getW ws off : Nat), .int .i64 (errW ws off : Nat)]) ∧ w = w' := by
  have hc := rin_any h hm off ho
  by_cases hs : stands ws off
  · rw [decide_eq_true hs] at hc
    have hq : off / 8 < ws.length := by have := hs.1; have := hs.2; omega
    obtain ⟨g0, c0, rfl, hg0, hg0'⟩ := World.ownsRow.form h (by omega)
    have hcell := OwnW.at_ h (off / 8) hq
    have e1 : getW ws off = ws.getD (off / 8) 0 := by unfold getW; rw [if_pos hs]
    have e2 : errW ws off = 0 := by unfold errW; rw [if_pos hs]
    rw [← e1] at hcell
    rw [e2]
    have hdiv : ((off : Int) / 8).toNat = off / 8 := by omega
    have hlt : (off : Int) / 8 < ws.length := by omega
    have HD := Lib.hid hdiv
    clear e1 e2 hs h hdiv
    go_enter Tryz.func100, Tryz.ntmps100
    go_wp2_with (go_at_call 131; refine hc.mono ?_; rintro e w' ⟨rfl, rfl⟩)
    go_ret2
    exact ⟨rfl, rfl⟩
  · rw [decide_eq_false hs] at hc
    have e1 : getW ws off = 0 := by unfold getW; rw [if_neg hs]
    have e2 : errW ws off = 1 := by unfold errW; rw [if_neg hs]
    rw [e1, e2]
    clear e1 e2 hs
    go_enter Tryz.func100, Tryz.ntmps100
    go_wp2_with (go_at_call 131; refine hc.mono ?_; rintro e w' ⟨rfl, rfl⟩)
    go_ret2
    exact ⟨rfl, rfl⟩
def txAt : List (Nat × Nat) → Nat → Option Nat
  | [], _ => none
  | p :: r, off => if p.1 = off then some 0 else (txAt r off).map (· + 1)
theorem txAt_none {l : List (Nat × Nat)} {off : Nat} : txAt l off = none ↔ txGet l off = none := by
  induction l with
  | nil => simp [txAt, txGet]
  | cons p r ih =>
    unfold txAt txGet
    by_cases e : p.1 = off
    · rw [if_pos e, if_pos e]; simp
    · rw [if_neg e, if_neg e, ← ih]; simp
theorem txX_cons (p : Nat × Nat) (r : List (Nat × Nat)) (k : Nat) : txX (p :: r) (k + 1) = txX r k := by simp [txX]
theorem txV_cons (p : Nat × Nat) (r : List (Nat × Nat)) (k : Nat) : txV (p :: r) (k + 1) = txV r k := by simp [txV]
theorem txAt_some {l : List (Nat × Nat)} {off i : Nat} (h : txAt l off = some i) : i < l.length ∧ txX l i = off ∧ txGet l off = some (txV l i) ∧ (∀ v, txSet l off v = l.set i (off, v)) ∧ ∀ j, j < i → txX l j ≠ off := by
  induction l generalizing i with
  | nil => cases h
  | cons p r ih =>
    unfold txAt at h
    by_cases e : p.1 = off
    · rw [if_pos e] at h
      injection h with h
      subst h
      refine ⟨by simp, by simpa [txX] using e, by unfold txGet; rw [if_pos e]; rfl, fun v => by unfold txSet; rw [if_pos e]; rfl, fun j hj => absurd hj (Nat.not_lt_zero _)⟩
    · rw [if_neg e] at h
      rcases e2 : txAt r off with _ | k
      · rw [e2] at h; cases h
      · rw [e2] at h
        injection h with h
        simp only at h
        subst h
        obtain ⟨h1, h2, h3, h4, h5⟩ := ih e2
        refine ⟨by simpa using h1, by rw [txX_cons]; exact h2, by unfold txGet; rw [if_neg e, h3, txV_cons], fun v => by unfold txSet; rw [if_neg e, h4]; rfl, fun j hj => ?_⟩
        rcases j with _ | j
        · simpa [txX] using e
        · rw [txX_cons]; exact h5 j (by omega)
theorem txAt_nobody {l : List (Nat × Nat)} {off : Nat} (h : txAt l off = none) : ∀ j, j < l.length → txX l j ≠ off := by
  induction l with
  | nil => intro j hj; exact absurd hj (Nat.not_lt_zero _)
  | cons p r ih =>
    unfold txAt at h
    by_cases e : p.1 = off
    · rw [if_pos e] at h; cases h
    · rw [if_neg e] at h
      have h2 : txAt r off = none := by
        rcases e2 : txAt r off with _ | k
        · rfl
        · rw [e2] at h; cases h
      intro j hj
      rcases j with _ | j
      · simpa [txX] using e
      · rw [txX_cons]; exact ih h2 j (by simpa using hj)
theorem cellsP_len (l : List (Nat × Nat)) : (cellsP l).length = l.length * 2 := by
  induction l with
  | nil => rfl
  | cons p r ih =>
    unfold cellsP at ih ⊢
    rw [List.flatMap_cons, List.length_append, ih, List.length_cons]
    simp only [List.length_cons, List.length_nil]
    omega
theorem cellsP_app (a b : List (Nat × Nat)) : cellsP (a ++ b) = cellsP a ++ cellsP b := by simp [cellsP, List.flatMap_append]
theorem cellsP_one (l : List (Nat × Nat)) : ∀ u ∈ cellsP l, u.oneCell' = true := by
  intro u hu
  obtain ⟨p, _, h⟩ := List.mem_flatMap.1 hu
  simp at h
  rcases h with rfl | rfl <;> rfl
theorem cellsP_at (l : List (Nat × Nat)) (k : Nat) (h : k < l.length) : (cellsP l)[k * 2]? = some (.int .u64 (txX l k : Nat)) ∧ (cellsP l)[k * 2 + 1]? = some (.int .u64 (txV l k : Nat)) := by
  induction l generalizing k with
  | nil => exact absurd h (Nat.not_lt_zero _)
  | cons p r ih =>
    have e : cellsP (p :: r) = .int .u64 (p.1 : Nat) :: .int .u64 (p.2 : Nat) :: cellsP r := rfl
    rw [e]
    rcases k with _ | k
    · exact ⟨rfl, rfl⟩
    · have := ih k (by simpa using h)
      rw [show (k + 1) * 2 = k * 2 + 1 + 1 by omega, List.getElem?_cons_succ, List.getElem?_cons_succ, List.getElem?_cons_succ, List.getElem?_cons_succ, txX_cons, txV_cons]
      exact this
theorem OwnP.later {w w' : World} {base : Nat} {v : Value} {l : List (Nat × Nat)} (h : OwnP w base v l) (hg : w.grownBy w' none) : OwnP w' base v l := own_kept h hg
theorem OwnP.addr {w : World} {base : Nat} {v : Value} {l : List (Nat × Nat)} (h : OwnP w base v l) : ∃ a c g, v = .slice a l.length c ∧ (0 < l.length → a = some ⟨g, 0, none⟩) ∧
    ∀ w', OwnP w' base v l → ∀ k, k < l.length → w'.cell? ⟨g, k * 2, none⟩ = some (.int .u64 (txX l k : Nat)) ∧ w'.cell? ⟨g, k * 2 + 1, none⟩ = some (.int .u64 (txV l k : Nat)) := by
  rcases h.2 with ⟨h1, h2⟩ | ⟨g, cap, cur, hv, _⟩
  · exact ⟨none, 0, 0, by rw [h1, h2], fun h => by omega, fun w' _ j hj => by omega⟩
  · refine ⟨_, cap, g, hv, fun _ => rfl, fun w' h' k hk => ?_⟩
    rw [hv] at h'
    have hl := cellsP_len l
    have c0 := World.ownsRow.cellAt h' (k * 2) (by omega)
    have c1 := World.ownsRow.cellAt h' (k * 2 + 1) (by omega)
    obtain ⟨e0, e1⟩ := cellsP_at l k hk
    exact ⟨c0.trans e0, c1.trans e1⟩
theorem txAt_is {l : List (Nat × Nat)} {off k : Nat} (h : k < l.length) (hx : txX l k = off) (hj : ∀ j, j < k → txX l j ≠ off) : txAt l off = some k := by
  rcases e : txAt l off with _ | i
  · exact absurd hx (txAt_nobody e k h)
  · obtain ⟨h1, h2, _, _, h5⟩ := txAt_some e
    rcases Nat.lt_trichotomy i k with hlt | heq | hgt
    · exact absurd h2 (hj i hlt)
    · rw [heq]
    · exact absurd hx (h5 k hgt)
theorem txAt_not {l : List (Nat × Nat)} {off : Nat} (hj : ∀ j, j < l.length → txX l j ≠ off) : txAt l off = none := by
  rcases e : txAt l off with _ | i
  · rfl
  · obtain ⟨h1, h2, _⟩ := txAt_some e
    exact absurd h2 (hj i h1)
set_option maxHeartbeats 400000 in
theorem rat_any {w : World} {base : Nat} {wv pv : Value} {l : List (Nat × Nat)} (h : OwnP w base pv l) (hl : l.length ≤ 1000000) (off : Nat) (ho : off < 18446744073709551616) (r : Int) (hr : r = match txAt l off with | some i => (i : Int) | none => -1) :
    Calls Tryz.prog 101 #[.agg #[wv, pv], .int .u64 off] w fun e w' => e = .returned (.int .i64 r) ∧ w.grownBy w' none := by
  obtain ⟨pa, pc, pg, hpv, hpa, hpc⟩ := h.addr
  have hpc' := fun w' (hg : w.grownBy w' none) => hpc w' (h.later hg)
  clear hpc h
  subst hpv
  have HPA := Lib.hid hpa
  have HR := Lib.hid hr
  clear hpa hr
  have hg0 : w.grownBy (w.alloc (.cells #[wv, .slice pa l.length pc] 69)) none := World.grownBy_alloc _ _ _
  go_enter Tryz.func101, Tryz.ntmps101
  go_wp2
  go_loop [5] (fun i => ∃ k : Nat, k ≤ l.length ∧ i = .int .i64 k ∧ Hid (∀ j, j < k → txX l j ≠ off)) (fun i => l.length - (intOf i).toNat)
  case atStart => exact ⟨0, Nat.zero_le _, rfl, Lib.hid (fun j hj => absurd hj (Nat.not_lt_zero _))⟩
  case round =>
    obtain ⟨k, hk, rfl, HJ⟩ := hrel
    rcases Nat.lt_or_ge k l.length with h1 | h1
    · obtain ⟨c1, c2⟩ := hpc' _ hg0 k h1
      have ea := HPA.out (by omega)
      subst ea
      by_cases hx : txX l k = off
      · have e1 : ((txX l k : Int) == (off : Int)) = true := by rw [beq_iff_eq]; omega
        have HX := Lib.hid hx
        clear hx
        go_wp2
        go_ret
        refine ⟨ret_int' ?_, hg0⟩
        rw [HR.out, txAt_is h1 HX.out HJ.out]
      · have e1 : ((txX l k : Int) == (off : Int)) = false := by rw [beq_eq_false_iff_ne]; omega
        have HX := Lib.hid hx
        clear hx
        go_wp2
        go_round
        case rel =>
          refine ⟨k + 1, by omega, by go_num, Lib.hid fun j hj => ?_⟩
          rcases Nat.lt_or_ge j k with h' | h'
          · exact HJ.out j h'
          · rw [show j = k by omega]; exact HX.out
        case measure => simp [intOf]; omega
    · obtain rfl : k = l.length := by omega
      go_wp2
      go_ret
      refine ⟨ret_int' ?_, hg0⟩
      rw [HR.out, txAt_not HJ.out]
structure RTx (w : World) (base : Nat) (wv pv : Value) (ws : List Nat) (l : List (Nat × Nat)) : Prop where
  words : OwnW w base wv ws
  puts : OwnP w base pv l
theorem RTx.later {w w' : World} {base : Nat} {wv pv : Value} {ws : List Nat} {l : List (Nat × Nat)} (h : RTx w base wv pv ws l) (hg : w.grownBy w' none) : RTx w' base wv pv ws l := ⟨h.words.later hg, h.puts.later hg⟩
end Go.Proofs.YtcngmkfpbcemjaaGreat
