/-
  Package tx: the contract of Store: the Tx thinks of the word, if the segment has one at the offset; nothing but the Tx's own blocks turns.
  Conditions: the segment stands in memory; offsets and words are numbers of 64 bits.
-/
import Derived.Test.YtkpopaadkfgjaaaTxB
import Derived.RangeFuncBox
namespace Go.Proofs.Ytkpopaadkfgjaaa
open Go.RowKit
set_option linter.unusedVariables false
set_option linter.unusedSimpArgs false

/-- 'append(out, y)' of one number of 64 bits, and where the row lies then. -/
theorem wpList_append_u64_at {w2 : World} {ops : Array Oper} {rest : List Oper} {o : Oper} {a : Act} {Q : Exit → Act → World → Prop} (hgd : o.guard = none) (s x : Operand)
    (ho : o.op = .call { callee := .builtin .append, args := #[s, x], argTypes := #[23, 23] })
    (base : Nat) (v : Value) (n : Nat) (xs : List Value) (hs : a.eval s = v) (hown : w2.ownsRow base 30 1 v n xs) (y : Int)
    (hx : a.eval x = .slice (some ⟨w2.heap.size, 0, none⟩) 1 1) (hn : n ≤ 1000000000) (hbase : base ≤ w2.heap.size)
    (h : ∀ v' w', w'.ownsRow base 30 1 v' (n + 1) (xs ++ [.int .u64 y]) → (w2.alloc (.cells #[.int .u64 y] 30)).grownBy w' v.ownBlock → (v'.ownBlock = v.ownBlock ∨ v'.ownBlock = some (w2.heap.size + 1)) → wpList Try.prog ops Q rest (a.put o.dst v') w') :
    wpList Try.prog ops Q (o :: rest) a (w2.alloc (.cells #[.int .u64 y] 30)) := by
  obtain ⟨i0, hi, hz0, hz1, hz2⟩ := info_parts info_u64
  refine wpList_append_own_at _ hgd s x 23 ho base 30 i0 (.int .u64 0) 1 8 Try.underlying23 hi hz0 hz1 hz2 rfl (by decide) v n xs hs (hown.alloc _) ⟨w2.heap.size, 0, none⟩ 1 1 [.int .u64 y] hx rfl ?_ ?_ ?_ ?_ ?_ fun v' w' h1 h2 _ h4 => h v' w' h1 h2 (by rw [World.size_alloc] at h4; exact h4)
  · intro j u hj
    rcases j with _ | j
    · simp at hj
      subst hj
      exact World.cell?_alloc_at _ _ _ _ rfl
    · simp at hj
  · intro u hu
    simp at hu
    subst hu
    rfl
  · unfold maxLen; omega
  · omega
  · rw [World.size_alloc]; omega

section
variable {w w1 w3 w5 : World} {T M : Nat} {R : Option Nat} {B D : Nat} {ws : List Nat} {l l' : List (Nat × Nat)}
theorem Thought.same (h : Thinks w T M R B D ws l) (hg : w.grownBy w1 none) : Thought w T M R B D ws l w1 := ⟨R, h.later hg, Turned.of_none hg _, .inl rfl⟩
theorem Thought.first (hg : w.grownBy w1 none) (h : Thought w1 T M R B D ws l w3) : Thought w T M R B D ws l w3 := by
  obtain ⟨R', h1, h2, h3⟩ := h
  refine ⟨R', h1, Turned.first hg h2, ?_⟩
  rcases h3 with h3 | ⟨g, h3, h4⟩
  · exact .inl h3
  · exact .inr ⟨g, h3, Nat.le_trans hg.size h4⟩
theorem Thought.later (h : Thought w T M R B D ws l w1) (hg : w1.grownBy w3 none) : Thought w T M R B D ws l w3 := by
  obtain ⟨R', h1, h2, h3⟩ := h
  exact ⟨R', h1.later hg, h2.later hg, h3⟩
/-- A Tx's own blocks behind a step are its own ahead of it, or new. -/
theorem foot_new {R' : Option Nat} {n : Nat} (h : R' = R ∨ ∃ g, R' = some g ∧ n ≤ g) {k : Nat} (hk : foot T M R' k) : foot T M R k ∨ n ≤ k := by
  rcases hk with hk | hk | hk
  · exact .inl (.inl hk)
  · exact .inl (.inr (.inl hk))
  · rcases h with rfl | ⟨g, rfl, hg⟩
    · exact .inl (.inr (.inr hk))
    · injection hk with hk
      subst hk
      exact .inr hg
/-- One step behind another. -/
theorem Thought.trans {R' : Option Nat} (ht : Turned (foot T M R) w w1) (hr : R' = R ∨ ∃ g, R' = some g ∧ w.heap.size ≤ g) (h : Thought w1 T M R' B D ws l w3) : Thought w T M R B D ws l w3 := by
  obtain ⟨R2, h1, h2, h3⟩ := h
  refine ⟨R2, h1, ht.trans h2 fun i hi => foot_new hr hi, ?_⟩
  rcases h3 with rfl | ⟨g, rfl, hg⟩
  · exact hr
  · exact .inr ⟨g, rfl, Nat.le_trans ht.size hg⟩
theorem cells_block {w : World} {b : Nat} {v : Value} {o : Nat} (h : w.cell? ⟨b, o, none⟩ = some v) : b < w.heap.size := World.block_lt_of_cell? w ⟨b, o, none⟩ h
/-- A word that was thought of already is thought of otherwise. -/
theorem Thought.again (h : Thinks w T M R B D ws l) {Da : DataW Unit} (hown : w.ownsMap Try.prog 30 (plainElem Try.prog 30) M l.length Da) (hs : Says Da l) {off v y : Nat} (ho : stands ws off) (hv : v < 18446744073709551616) (hy : txGet l off = some y)
    (hown5 : w5.ownsMap Try.prog 30 (plainElem Try.prog 30) M (l.length + 1) (Da.put (.int .u64 off) (.lit (.int .u64 v)))) (hg : w.grownBy w5 (some M)) : Thought w T M R B D ws (txSet l off v) w5 := by
  have hsay := hs.put (hown.tidy keyed_u64) off v
  have ht : Turned (fun k => some M = some k) w w5 := Turned.of_grown hg
  obtain ⟨tv, h1, h2, h3⟩ := h.head
  have e1 : T ≠ M := h.neTM
  refine ⟨R, ⟨?_, ⟨tv, ht.heap h1 (by simpa using e1.symm), ?_, h3⟩, ⟨_, ?_, hsay⟩, h.ok.set ho hv⟩, ht.mono (fun k _ hk => .inr (.inl (by simpa using hk.symm))), .inl rfl⟩
  · exact h.seg.turned ht (fun e => h.notB (.inr (.inl (by injection e with e; exact e.symm)))) (fun e => h.notD (.inr (.inl (by injection e with e; exact e.symm))))
  · rw [txKeys_old v (by rw [hy]; simp)]
    exact row_turned h2 ht (fun g hg e => h.neMR (by rw [← h3, hg]; exact e.symm))
  · have := map_tight hown5
    rwa [hsay.size] at this
/-- The facts ahead of the map's store, behind the append and the store of the turn. -/
theorem turn_stored (h : Thinks w T M R B D ws l) {tv v' : Value} (h1 : w.heap[T]? = some (.cells #[.pointer (some ⟨B, 0, none⟩), .map (some M), tv] 89 (0, 0))) (h3 : tv.ownBlock = R) (y : Int)
    (hown3 : w3.ownsRow 0 30 1 v' (l.length + 1) (cellsU (txKeys l) ++ [.int .u64 y])) (hg : (w.alloc (.cells #[.int .u64 y] 30)).grownBy w3 tv.ownBlock) :
    w3.heap[T]? = some (.cells #[.pointer (some ⟨B, 0, none⟩), .map (some M), tv] 89 (0, 0)) ∧
    (∀ {Da : DataW Unit}, w.ownsMap Try.prog 30 (plainElem Try.prog 30) M l.length Da → (w3.setCell ⟨T, 2, none⟩ v').ownsMap Try.prog 30 (plainElem Try.prog 30) M l.length Da) ∧
    ∃ g cap, v' = .slice (some ⟨g, 0, none⟩) (l.length + 1) cap := by
  rw [h3] at hg
  have ha : w.grownBy (w.alloc (.cells #[.int .u64 y] 30)) none := World.grownBy_alloc _ _ _
  have hh := h.later ha
  refine ⟨(hg.block T (by have := h.ltT; rw [World.size_alloc]; omega) (fun e => h.neTR e.symm)).trans ((ha.block T h.ltT (by simp)).trans h1), fun hown => ?_, ?_⟩
  · refine World.ownsMap.setCell ((hown.kept ha (by simp)).kept hg ?_) (fun e => h.neTM e.symm) _
    intro e
    exact h.neMR e.symm
  · obtain ⟨g, cap, e⟩ := ownsRow_succ hown3
    exact ⟨g, cap, e⟩
/-- A word more is thought of. -/
theorem Thought.more (h : Thinks w T M R B D ws l) {tv v' : Value} (h1 : w.heap[T]? = some (.cells #[.pointer (some ⟨B, 0, none⟩), .map (some M), tv] 89 (0, 0))) (h3 : tv.ownBlock = R)
    {Da : DataW Unit} (hown : w.ownsMap Try.prog 30 (plainElem Try.prog 30) M l.length Da) (hs : Says Da l) {off v : Nat} (ho : stands ws off) (hv : v < 18446744073709551616) (hy : txGet l off = none)
    (hown3 : w3.ownsRow 0 30 1 v' (l.length + 1) (cellsU (txKeys l) ++ [.int .u64 (off : Nat)])) (hg : (w.alloc (.cells #[.int .u64 (off : Nat)] 30)).grownBy w3 tv.ownBlock)
    (hloc : v'.ownBlock = tv.ownBlock ∨ v'.ownBlock = some (w.heap.size + 1))
    (hown5 : w5.ownsMap Try.prog 30 (plainElem Try.prog 30) M (l.length + 1) (Da.put (.int .u64 off) (.lit (.int .u64 v)))) (hg5 : (w3.setCell ⟨T, 2, none⟩ v').grownBy w5 (some M)) : Thought w T M R B D ws (txSet l off v) w5 := by
  obtain ⟨t1, t2, _⟩ := turn_stored h h1 h3 _ hown3 hg
  have hsay := hs.put (hown.tidy keyed_u64) off v
  rw [h3] at hg hloc
  have ha : w.grownBy (w.alloc (.cells #[.int .u64 (off : Nat)] 30)) none := World.grownBy_alloc _ _ _
  have s3 : Turned (foot T M R) w w3 := (Turned.of_none ha (foot T M R)).trans (Turned.of_grown hg) (fun i hi => .inl (.inr (.inr hi)))
  have s4 : Turned (foot T M R) w (w3.setCell ⟨T, 2, none⟩ v') := s3.trans (Turned.of_grown (grown_set _ _ _ _)) (fun i hi => .inl (.inl (by injection hi with hi; exact hi.symm)))
  have s5 : Turned (foot T M R) w w5 := s4.trans (Turned.of_grown hg5) (fun i hi => .inl (.inr (.inl (by injection hi with hi; exact hi.symm))))
  have q5 : Turned (fun k => some M = some k) (w3.setCell ⟨T, 2, none⟩ v') w5 := Turned.of_grown hg5
  have hrow4 : (w3.setCell ⟨T, 2, none⟩ v').ownsRow 0 30 1 v' (l.length + 1) (cellsU (txKeys l) ++ [.int .u64 (off : Nat)]) :=
    row_turned hown3 (Turned.of_grown (grown_set w3 T 2 v')) (fun g hg' e => by
      injection e with e
      subst e
      obtain ⟨_, cur, h4⟩ := row_block hown3 hg'
      exact ne_type t1 h4 (by decide) rfl)
  have hT4 : (w3.setCell ⟨T, 2, none⟩ v').heap[T]? = some (.cells #[.pointer (some ⟨B, 0, none⟩), .map (some M), v'] 89 (0, 0)) := by
    rw [heap_setCell_same t1]; rfl
  have hT5 := q5.heap hT4 (by simpa using h.neTM.symm)
  obtain ⟨es, clock, hM4⟩ := map_block (t2 hown)
  have hrow5 : w5.ownsRow 0 30 1 v' (l.length + 1) (cellsU (txKeys l) ++ [.int .u64 (off : Nat)]) :=
    row_turned hrow4 q5 (fun g hg' e => by
      injection e with e
      subst e
      obtain ⟨_, cur, h4⟩ := row_block hrow4 hg'
      exact ne_map h4 hM4 rfl)
  refine ⟨v'.ownBlock, ⟨h.seg.turned s5 h.notB h.notD, ⟨v', hT5, ?_, rfl⟩, ⟨_, ?_, hsay⟩, h.ok.set ho hv⟩, s5, ?_⟩
  · unfold OwnW
    rw [txKeys_new v hy]
    have e2 : (txKeys l ++ [off]).length = l.length + 1 := by simp [txKeys]
    rw [e2]
    simpa [cellsU] using hrow5
  · have := map_tight hown5
    rwa [hsay.size] at this
  · rcases hloc with e | e
    · exact .inl e
    · exact .inr ⟨_, e, Nat.le_succ _⟩

set_option maxHeartbeats 1000000 in
theorem txstore_any (h : Thinks w T M R B D ws l) (off v : Nat) (ho : off < 18446744073709551616) (hv : v < 18446744073709551616) :
    Calls Try.prog 26 #[.pointer (some ⟨T, 0, none⟩), .int .u64 off, .int .u64 v] w fun e w' => e = .returned (.tuple #[]) ∧ Thought w T M R B D ws (txStore ws l off v) w' := by
  have hhas := txhas_any h off ho
  by_cases hs : stands ws off
  · rw [decide_eq_true hs] at hhas
    have e0 : txStore ws l off v = txSet l off v := by unfold txStore; rw [if_pos hs]
    rw [e0]
    have hlen := Nat.le_trans h.ok.len h.seg.most
    rcases e : txGet l off with _ | y
    · have HS := Lib.hid hs
      have HE := Lib.hid e
      clear hs e e0
      go_enter Try.func26, Try.ntmps26
      go_wp2_with (first | (go_at_call 47; refine hhas.mono ?_; rintro e w1 ⟨rfl, hg1⟩; have hT := h.later hg1; obtain ⟨tv, h1, h2, h3⟩ := hT.head; have c0 : w1.cell? ⟨T, 1, none⟩ = some (.map (some M)) := (by simp [World.cell?, h1]); have c2 : w1.cell? ⟨T, 2, none⟩ = some tv := (by simp [World.cell?, h1]); obtain ⟨Da, hown, hsay⟩ := hT.map; have HH := Lib.hid (hsay.has off); have H1 := Lib.hid h1; clear h1; have H3 := Lib.hid h3; clear h3) | (at_lookup; refine wpList_lookup_own_ok_int _ rfl _ _ 87 rfl 30 30 .u64 keyed_u64 Try.underlying87 Try.underlying30 (zero_u64 _) M _ Da rfl hown _ _ rfl (key_u64 off ho) ?_; intro c hat hwc; rw [HH.out, HE.out]) | (at_builtin; go_must (refine wpList_append_u64_at rfl _ _ rfl 0 tv l.length (cellsU (txKeys l)) rfl (by rw [← txKeys_len]; exact h2) _ rfl (by omega) (Nat.zero_le _) ?_); intro v' w3 hown3 hg4 hloc; obtain ⟨t1, t2, g', cap', hv'⟩ := turn_stored hT H1.out H3.out _ hown3 hg4; subst hv'; have c3 : w3.cell? ⟨T, 2, none⟩ = some tv := (by simp [World.cell?, t1]); have c4 : w3.cell? ⟨T, 1, none⟩ = some (.map (some M)) := (by simp [World.cell?, t1]); have f3 : w3.frozen? ⟨T, 2, none⟩ = false := (by simp [World.frozen?, t1]); have hown4 := t2 hown; have HL := Lib.hid hloc; clear t1 t2 hloc) | (at_mapUpdate; go_must (refine wpList_mapUpdate_own _ rfl _ _ _ 87 rfl 30 30 keyed_u64 Try.underlying87 _ M l.length _ rfl hown4 (by unfold maxLen; omega) _ _ _ rfl rfl (key_u64 off ho) _ [] (plainElem_int Try.underlying30 (wf_u64 v hv)) ?_); intro w5 hown5 hg5))
      go_end0
      exact ⟨rfl, Thought.first hg1 (Thought.more hT H1.out H3.out hown hsay HS.out hv HE.out hown3 hg4 HL.out hown5 hg5)⟩
    · have HS := Lib.hid hs
      have HE := Lib.hid e
      clear hs e e0
      go_enter Try.func26, Try.ntmps26
      go_wp2_with (first | (go_at_call 47; refine hhas.mono ?_; rintro e w1 ⟨rfl, hg1⟩; have hT := h.later hg1; obtain ⟨tv, h1, h2, h3⟩ := hT.head; have c0 : w1.cell? ⟨T, 1, none⟩ = some (.map (some M)) := (by simp [World.cell?, h1]); obtain ⟨Da, hown, hsay⟩ := hT.map; have HH := Lib.hid (hsay.has off); clear h1 h3) | (at_lookup; refine wpList_lookup_own_ok_int _ rfl _ _ 87 rfl 30 30 .u64 keyed_u64 Try.underlying87 Try.underlying30 (zero_u64 _) M _ Da rfl hown _ _ rfl (key_u64 off ho) ?_; intro c hat hwc; rw [HH.out, HE.out]) | (at_mapUpdate; go_must (refine wpList_mapUpdate_own _ rfl _ _ _ 87 rfl 30 30 keyed_u64 Try.underlying87 _ M l.length _ rfl hown (by unfold maxLen; omega) _ _ _ rfl rfl (key_u64 off ho) _ [] (plainElem_int Try.underlying30 (wf_u64 v hv)) ?_); intro w5 hown5 hg5))
      go_end0
      exact ⟨rfl, Thought.first hg1 (Thought.again hT hown hsay HS.out hv HE.out hown5 hg5)⟩
  · rw [decide_eq_false hs] at hhas
    have e0 : txStore ws l off v = l := by unfold txStore; rw [if_neg hs]
    rw [e0]
    clear hs e0
    go_enter Try.func26, Try.ntmps26
    go_wp2_with (go_at_call 47; refine hhas.mono ?_; rintro e w1 ⟨rfl, hg1⟩)
    refine bodyPost_ret (results_none rfl _ _ _) rfl ?_
    exact ⟨rfl, Thought.same h hg1⟩
end
end Go.Proofs.Ytkpopaadkfgjaaa
