/-
  slices.Collect at pairs, over whatever iterator that tells N of them; Puts: all words that are thought of.
  Conditions: the iterator has its contract, of at most 1000000 pairs; the Tx is nil, or stands in memory.
-/
import Derived.Test.YtndoedcaoklfgaaTxD
namespace Go.Proofs.Ytndoedcaoklfgaa
open Go.RowKit Go.Shelf
set_option linter.unusedVariables false
set_option linter.unusedSimpArgs false
attribute [local go_sem] Oper.semAt_some

theorem info_put : (Try.prog.info? 65).map (fun i => (i.zero, i.size, i.bytes)) = some (some (.agg #[.int .u64 0, .int .u64 0]), 2, 16) := by kernel_rfl
/-- pairs, as cells -/
def cellsXV (X V : Nat → Nat) (l : List Nat) : List Value := l.flatMap fun k => [.int .u64 (X k : Nat), .int .u64 (V k : Nat)]
theorem cellsXV_snoc (X V : Nat → Nat) (l : List Nat) (k : Nat) : cellsXV X V (l ++ [k]) = cellsXV X V l ++ [.int .u64 (X k : Nat), .int .u64 (V k : Nat)] := by
  simp [cellsXV, List.flatMap_append]
theorem below_keep {T M : Nat} {R : Option Nat} {bx : Nat} {w W W' : World} (hf : ∀ k, foot T M R k → k < w.heap.size) (hb : bx < w.heap.size) (h : Below w.heap.size W W') : TxKeep T M R bx W W' :=
  ⟨h.size, fun k hk => h.block k (by
    rcases hk with hk | rfl
    · exact hf k hk
    · exact hb)⟩
theorem cells_two_new (W : World) (t : TypeId) (x y : Value) : ∀ j u, [x, y][j]? = some u → (W.alloc (.cells #[x, y] t)).cell? ((⟨W.heap.size, 0, none⟩ : Addr).add j) = some u := by
  intro j u hj
  have hb : (W.alloc (.cells #[x, y] t)).heap[W.heap.size]? = some (.cells #[x, y] t (0, 0)) := heap_alloc_new' _ _
  have hadd : ∀ j, (⟨W.heap.size, 0, none⟩ : Addr).add j = ⟨W.heap.size, j, none⟩ := fun j => by unfold Addr.add; split <;> simp_all
  rw [hadd]
  unfold World.cell?
  simp only [hb]
  rcases j with _ | _ | j
  · simp at hj; subst hj; rfl
  · simp at hj; subst hj; rfl
  · simp at hj
set_option maxRecDepth 100000 in
set_option maxHeartbeats 2000000 in
theorem appendseq_in (n : Nat) (hn : 5 ≤ n) {gf : Nat} {lb : Array Value} (eg : ∀ args w, (callFunc gf args).run Try.prog w = .ok (.enter gf args) w) {X V : Nat → Nat} {Kp : World → World → Prop} {Sp : List Nat → Prop} {N : Nat} (hN : N ≤ 1000000) {w : World}
    (hseq : SeqStopsK Fence.wide (n - 1) Try.prog gf lb (fun x : Nat => #[.agg #[.int .u64 (X x : Nat), .int .u64 (V x : Nat)]]) Kp (fun ys => ys = List.range N) Sp N w)
    (hKt : ∀ {A B C : World}, Kp A B → Kp B C → Kp A C) (hKn : ∀ {W W' : World}, Below w.heap.size W W' → Kp W W') :
    CallsIn Fence.wide n Try.prog 57 #[.slice none 0 0, .func (.func gf) #[] lb] w fun e W' => ∃ v, e = .returned v ∧ W'.ownsRow w.heap.size 65 2 v N (cellsXV X V (List.range N)) ∧ w.grownBy W' none := by
  have h1 : 1 ≤ n := by omega
  obtain ⟨i0, hi, hz0, hz1, hz2⟩ := info_parts info_put
  refine callsIn_of_wp_marks Try.func57 rfl trivial ?_ rfl
  simp only [Try.ntmps57, List.size_toArray, List.length_cons, List.length_nil, Nat.reduceAdd, Nat.reduceSub, Array.replicate_succ, Array.replicate_zero, List.push_toArray, List.append_toArray, List.nil_append, List.cons_append]
  gi_wp2
  have bO := Boxed.new w 22 (.slice none 0 0)
  have hB0 : Below w.heap.size w (w.alloc (.cells #[.slice none 0 0] 22)) := (Below.refl _ w).alloc (Nat.le_refl _) _
  have hsz : (w.alloc (.cells #[.slice none 0 0] 22)).heap.size = w.heap.size + 1 := by simp
  obtain ⟨W0, hW0⟩ : ∃ W0, w.alloc (.cells #[.slice none 0 0] 22) = W0 := ⟨_, rfl⟩
  rw [hW0] at bO hB0 hsz ⊢
  clear hW0
  refine wpIn_rangeFunc_ownH rfl h1 (gf := gf) (lb := lb) rfl trivial eg hseq (fun h k => hKt h k) (fun W l o o' hl h hc hw => hKn (belowK_b (w := W0) (by omega) W l o o' hl h hc hw)) hB0 (fun _ => rfl)
    (fun pre W => (∃ v, Boxed W w.heap.size 22 v ∧ W.ownsRow w.heap.size 65 2 v pre.length (cellsXV X V pre) ∧ True) ∧ Below w.heap.size w W)
    (fun _ _ _ => False)
    (OwnFrom.and (Own.from (holdsRow_own w.heap.size w.heap.size 22 65 2 (fun pre : List Nat => pre.length) (fun pre => cellsXV X V pre) (fun _ _ => True)) _) (ownFrom_below (Nat.le_refl _) (by omega)))
    (fun _ _ _ _ _ hs _ _ => hs)
    ⟨⟨_, bO, World.ownsRow_nil _ _ _ _, trivial⟩, hB0⟩
    (fun x a' W => ∃ Bx, w.heap.size < Bx ∧ W.heap[Bx]? = some (.cells #[.int .u64 (X x : Nat), .int .u64 (V x : Nat)] 65 (0, 0)) ∧ a' = { tmps := #[.slice none 0 0, .func (.func gf) #[] lb, .pointer (some ⟨w.heap.size, 0, none⟩), undef, .slice none 0 0, .pointer (some ⟨Bx, 0, none⟩), .func (.func gf) #[] lb, .agg #[.int .u64 (X x : Nat), .int .u64 (V x : Nat)], undef, undef, undef, undef, undef], defers := [] })
    (fun x a' _ X Y row hs hg hr => by
      obtain ⟨Bx, h1, h2, h3⟩ := hs
      refine ⟨Bx, h1, (hg.block Bx (lt_of_block h2) (fun e => ?_)).trans h2, h3⟩
      obtain ⟨_, o, ho, hc⟩ := hr Bx e.symm
      rw [h2] at ho; cases ho; cases hc)
    ?assign ?body ?done ?stop
  case assign =>
    rintro l pre x W K ⟨⟨v, hv, hrow, _⟩, hB⟩ hK
    gi_wp2
    have hBa : Below w.heap.size W (W.alloc (.cells #[.int .u64 (X x : Nat), .int .u64 (V x : Nat)] 65)) := (Below.refl _ W).alloc hB.size _
    exact hK _ _ ((KeepsOthers.alloc _ _).from _) (hKn hBa) ⟨⟨v, hv.alloc _, hrow.alloc _, trivial⟩, hB.trans hBa⟩ ⟨W.heap.size, hv.lt, heap_alloc_new' _ _, rfl⟩
  case body =>
    rintro l pre x a' W hl ⟨r, hr⟩ ⟨⟨v, hv, hrow, _⟩, hB⟩ ⟨Bx, hBx, bX, rfl⟩ hlt
    have hc := hv.cell
    have cx0 : W.cell? ⟨Bx, 0, none⟩ = some (.int .u64 (X x : Nat)) := by simp [World.cell?, bX]
    have cx1 : W.cell? ⟨Bx, 1, none⟩ = some (.int .u64 (V x : Nat)) := by simp [World.cell?, bX]
    have hpl : pre.length ≤ 1000000 := by omega
    gi_wp2_with (gi_at_builtin; go_must (refine wpListIn_append_own _ rfl _ _ 22 rfl w.heap.size 65 i0 (.agg #[.int .u64 0, .int .u64 0]) 2 16 Try.underlying22 hi hz0 hz1 hz2 rfl (by decide) _ _ _ rfl (hrow.alloc _) ⟨W.heap.size, 0, none⟩ 1 1 [.int .u64 (X x : Nat), .int .u64 (V x : Nat)] rfl rfl (cells_two_new _ _ _ _) (by simp [Value.oneCell']) (by unfold maxLen; omega) (by omega) (by have := hB.size; simp; omega) ?_); intro v' w1 hown' hgrow _; obtain ⟨g', cap', rfl⟩ := ownsRow_succ hown'; obtain ⟨hv1, hv2, hr2, hk2, hb2⟩ := hv.appended (by decide) hrow hB.size (Nat.le_refl _) hown' hgrow; have hc1 := hv1.cell; have hf1 := hv1.frozen)
    exact ⟨hk2.from _, hKn hb2, ⟨_, hv2, by rw [cellsXV_snoc, List.length_append]; exact hr2, trivial⟩, hB.trans hb2⟩
  case done =>
    rintro D ys W hD rfl ⟨⟨v, hv, hrow, _⟩, hB⟩ hK
    have hc := hv.cell
    gi_wp2
    refine ⟨by simp, .inl ⟨_, _, rfl, run_takeDeferred hK, ?_⟩⟩
    rw [List.length_range] at hrow
    exact ⟨_, results_tmp rfl _ _ _, v, rfl, ownsRow_putObj hrow _ hK rfl, below_grown (hB.trans (belowK_b (w := w) (Nat.le_refl _) W D _ _ (by omega) hK rfl rfl))⟩
  case stop =>
    rintro D c pre W _ _ h _
    exact h.elim

/-- slices.Collect. -/
theorem collect_in {gf : Nat} {lb : Array Value} (eg : ∀ args w, (callFunc gf args).run Try.prog w = .ok (.enter gf args) w) {X V : Nat → Nat} {Kp : World → World → Prop} {Sp : List Nat → Prop} {N : Nat} (hN : N ≤ 1000000) {w : World}
    (hseq : SeqStopsK Fence.wide 5 Try.prog gf lb (fun x : Nat => #[.agg #[.int .u64 (X x : Nat), .int .u64 (V x : Nat)]]) Kp (fun ys => ys = List.range N) Sp N w)
    (hKt : ∀ {A B C : World}, Kp A B → Kp B C → Kp A C) (hKn : ∀ {W W' : World}, Below w.heap.size W W' → Kp W W') :
    Calls Try.prog 37 #[.func (.func gf) #[] lb] w fun e W' => ∃ v, e = .returned v ∧ W'.ownsRow w.heap.size 65 2 v N (cellsXV X V (List.range N)) ∧ w.grownBy W' none := by
  have hc := callsIn_wide.1 (appendseq_in 6 (by decide) eg hN hseq (fun h k => hKt h k) (fun h => hKn h))
  go_enter Try.func37, Try.ntmps37
  go_wp2_with (go_at_call 57; refine hc.mono ?_; rintro e w1 ⟨v, rfl, hown, hg⟩)
  go_ret
  exact ⟨_, rfl, hown, hg⟩

/-- pairs, as cells -/
def cellsP (l : List (Nat × Nat)) : List Value := l.flatMap fun p => [.int .u64 (p.1 : Nat), .int .u64 (p.2 : Nat)]
theorem cellsP_range (l : List (Nat × Nat)) : cellsXV (txX l) (txV l) (List.range l.length) = cellsP l := by
  unfold cellsXV cellsP
  have h : ∀ k, k ∈ List.range l.length → [Value.int .u64 (txX l k : Nat), Value.int .u64 (txV l k : Nat)] = (fun p : Nat × Nat => [Value.int .u64 (p.1 : Nat), Value.int .u64 (p.2 : Nat)]) (l.getD k (0, 0)) := fun _ _ => rfl
  rw [List.flatMap_def, List.flatMap_def, List.map_congr_left h]
  congr 1
  apply List.ext_getElem
  · simp
  · intro i h1 h2
    simp at h1 h2
    simp [List.getD_eq_getElem?_getD, List.getElem?_eq_getElem h1]
/-- A row of the call's own that holds these pairs (or nil, of none). -/
def OwnP (w : World) (base : Nat) (v : Value) (l : List (Nat × Nat)) : Prop := w.ownsRow base 65 2 v l.length (cellsP l)
section
variable {w : World} {T M : Nat} {R : Option Nat} {B D : Nat} {ws : List Nat} {l : List (Nat × Nat)}
set_option maxHeartbeats 400000 in
theorem txputs_any (h : Thinks w T M R B D ws l) :
    Calls Try.prog 18 #[.pointer (some ⟨T, 0, none⟩)] w fun e w' => ∃ v, e = .returned v ∧ OwnP w' w.heap.size v l ∧ w.grownBy w' none := by
  have hlen := Nat.le_trans h.ok.len h.seg.most
  have hg1 : w.grownBy (w.alloc (.cells #[.pointer (some ⟨T, 0, none⟩)] 26)) none := World.grownBy_alloc _ _ _
  have h1 := h.later hg1
  obtain ⟨tv, hm⟩ := h1.mem
  have hseq := words_stops Fence.wide 5 trivial rfl (by decide) w.heap.size h1.ok h1.seg.most (heap_alloc_new' _ _) hm (fun k hk => h1.foot_lt hk)
  have hc := collect_in (enters_of Try.func58 (by kernel_rfl) rfl) (by omega) hseq (fun h k => TxKeep.trans h k) (fun hb => below_keep (fun k hk => h1.foot_lt hk) (by simp) hb)
  rw [cellsP_range] at hc
  go_enter Try.func18, Try.ntmps18
  go_wp2_with (first | (go_at_call 38; refine (words_any _ _).mono ?_; rintro e w1 ⟨rfl, rfl⟩) | (go_at_call 37; refine hc.mono ?_; rintro e w2 ⟨v, rfl, hown, hg2⟩))
  go_ret
  exact ⟨_, rfl, World.ownsRow.mono hown (by simp), grown_trans hg1 hg2⟩
theorem txputs_nil (w : World) : Calls Try.prog 18 #[.pointer none] w fun e w' => ∃ a c, e = .returned (.slice a 0 c) ∧ w.grownBy w' none := by
  have hg1 : w.grownBy (w.alloc (.cells #[.pointer none] 26)) none := World.grownBy_alloc _ _ _
  have hseq := words_stops_nil Fence.wide 5 trivial rfl (by decide) w.heap.size (Kp := fun _ _ => True) (fun x : Nat => #[.agg #[.int .u64 (txX [] x : Nat), .int .u64 (txV [] x : Nat)]]) (w := w.alloc (.cells #[.pointer none] 26)) (heap_alloc_new' _ _)
  have hc := collect_in (enters_of Try.func58 (by kernel_rfl) rfl) (by decide) hseq (fun _ _ => trivial) (fun _ => trivial)
  go_enter Try.func18, Try.ntmps18
  go_wp2_with (first | (go_at_call 38; refine (words_any _ _).mono ?_; rintro e w1 ⟨rfl, rfl⟩) | (go_at_call 37; refine hc.mono ?_; rintro e w2 ⟨v, rfl, hown, hg2⟩))
  go_ret
  obtain ⟨a, c, rfl⟩ : ∃ a c, v = .slice a 0 c := by
    rcases hown.2 with ⟨hv, _⟩ | ⟨g, cap, cur, hv, _⟩
    · exact ⟨none, 0, hv⟩
    · exact ⟨_, _, hv⟩
  exact ⟨_, _, rfl, grown_trans hg1 hg2⟩
end
end Go.Proofs.Ytndoedcaoklfgaa
