/-
  Package tx: the contract of Apply: all that is thought of is stored in the segment, in turn; nothing else turns.
  Conditions: the Tx is nil, or stands in memory.
-/
import Derived.Test.YtojkebnjohanaaaTxE
import Derived.Test.YtojkebnjohanaaaStillIn
namespace Go.Proofs.Ytojkebnjohanaaa
open Go.RowKit Go.Shelf
set_option linter.unusedVariables false
set_option linter.unusedSimpArgs false
attribute [local go_sem] Oper.semAt_some

/-- words, with the pairs of these places stored -/
def applyI (ws : List Nat) (l : List (Nat × Nat)) (ks : List Nat) : List Nat := ks.foldl (fun ws k => put ws (txX l k) (txV l k)) ws
theorem applyI_snoc (ws : List Nat) (l : List (Nat × Nat)) (ks : List Nat) (k : Nat) : applyI ws l (ks ++ [k]) = put (applyI ws l ks) (txX l k) (txV l k) := by
  simp [applyI, List.foldl_append]
theorem applyI_len (ws : List Nat) (l : List (Nat × Nat)) (ks : List Nat) : (applyI ws l ks).length = ws.length := by
  induction ks generalizing ws with
  | nil => rfl
  | cons k r ih =>
    show (applyI (put ws (txX l k) (txV l k)) l r).length = _
    rw [ih, put_len]
theorem applyI_all (ws : List Nat) (l : List (Nat × Nat)) : applyI ws l (List.range l.length) = txApply ws l := by
  unfold applyI txApply
  have h : l = (List.range l.length).map (fun k => l.getD k (0, 0)) := by
    apply List.ext_getElem
    · simp
    · intro i h1 h2
      simp [List.getD_eq_getElem?_getD, List.getElem?_eq_getElem h1]
  have e : l.foldl (fun ws p => put ws p.1 p.2) ws = ((List.range l.length).map (fun k => l.getD k (0, 0))).foldl (fun ws p => put ws p.1 p.2) ws := congrArg (fun m => List.foldl (fun ws (p : Nat × Nat) => put ws p.1 p.2) ws m) h
  rw [e, List.foldl_map]
  rfl
/-- What holds between two rounds: the segment has the words of these places, and nothing but its bytes has turned. -/
structure ApplyI (w : World) (b0 T B D : Nat) (ws : List Nat) (W : World) : Prop where
  seg : IsSeg W B D ws
  grown : w.grownBy W (some D)
  big : b0 + 2 ≤ W.heap.size
  box : W.heap[b0]? = some (.cells #[.pointer (some ⟨T, 0, none⟩)] 42 (0, 0))
theorem ApplyI.own (w : World) (n b0 T B D : Nat) (f : List Nat → List Nat) (hn : w.heap.size ≤ n) : OwnFrom n (fun (pre : List Nat) W => ApplyI w b0 T B D (f pre) W) := fun s X Y row hs hg hr => by
  have hc : ∀ {b : Nat} {c : Array Value} {t : TypeId} {fr : Nat × Nat}, X.heap[b]? = some (.cells c t fr) → row ≠ some b := fun h e => by
    obtain ⟨_, o, ho, hc⟩ := hr _ e
    rw [h] at ho; cases ho; cases hc
  refine ⟨hs.seg.kept hg (hc hs.seg.head) (hc hs.seg.data), grown_step hs.grown hg (fun i hi => .inl (Nat.le_trans hn (hr i hi).1)), Nat.le_trans hs.big hg.size, ?_⟩
  exact (hg.block b0 (lt_of_block hs.box) (fun e => hc hs.box e.symm)).trans hs.box

section
variable {w : World} {T M : Nat} {R : Option Nat} {B D : Nat} {ws : List Nat} {l : List (Nat × Nat)}
set_option maxRecDepth 100000 in
set_option maxHeartbeats 2000000 in
theorem txapply_in (h : Thinks w T M R B D ws l) :
    CallsIn Fence.wide 6 Try.prog 22 #[.pointer (some ⟨T, 0, none⟩)] w fun e w' => e = .returned (.tuple #[]) ∧ w.grownBy w' (some D) ∧ IsSeg w' B D (txApply ws l) := by
  have hmx : Try.prog.follows .mixedOrders = true := by kernel_rfl
  have hlen := Nat.le_trans h.ok.len h.seg.most
  have hg1 : w.grownBy ((w.alloc (.cells #[.pointer (some ⟨T, 0, none⟩)] 42)).alloc (.cells #[.pointer (some ⟨T, 0, none⟩)] 42)) none := grown_trans (World.grownBy_alloc _ _ _) (World.grownBy_alloc _ _ _)
  have h1 := h.later hg1
  refine callsIn_of_wp_marks Try.func22 rfl trivial ?_ rfl
  simp only [Try.ntmps22, List.size_toArray, List.length_cons, List.length_nil, Nat.reduceAdd, Nat.reduceSub, Array.replicate_succ, Array.replicate_zero, List.push_toArray, List.append_toArray, List.nil_append, List.cons_append]
  gi_wp2_with (refine ⟨trivial, ?_⟩; gi_at_call 44; refine (callsIn_wide.2 (words_any _ _)).mono ?_; rintro e w' ⟨rfl, rfl⟩)
  have hb0 : ((w.alloc (.cells #[.pointer (some ⟨T, 0, none⟩)] 42)).alloc (.cells #[.pointer (some ⟨T, 0, none⟩)] 42)).heap[w.heap.size]? = some (.cells #[.pointer (some ⟨T, 0, none⟩)] 42 (0, 0)) :=
    (Below.heap_alloc _ _ _ (by simp)).trans (heap_alloc_new' w _)
  have hbx : ((w.alloc (.cells #[.pointer (some ⟨T, 0, none⟩)] 42)).alloc (.cells #[.pointer (some ⟨T, 0, none⟩)] 42)).heap[w.heap.size + 1]? = some (.cells #[.pointer (some ⟨T, 0, none⟩)] 42 (0, 0)) := by
    have := heap_alloc_new' (w.alloc (.cells #[.pointer (some ⟨T, 0, none⟩)] 42)) (.cells #[.pointer (some ⟨T, 0, none⟩)] 42)
    rwa [World.size_alloc] at this
  have hsz : ((w.alloc (.cells #[.pointer (some ⟨T, 0, none⟩)] 42)).alloc (.cells #[.pointer (some ⟨T, 0, none⟩)] 42)).heap.size = w.heap.size + 2 := by simp
  obtain ⟨W0, hW0⟩ : ∃ W0, (w.alloc (.cells #[.pointer (some ⟨T, 0, none⟩)] 42)).alloc (.cells #[.pointer (some ⟨T, 0, none⟩)] 42) = W0 := ⟨_, rfl⟩
  rw [hW0] at hg1 h1 hb0 hbx hsz ⊢
  clear hW0
  obtain ⟨tv, hm⟩ := h1.mem
  have hfl := fun k (hk : foot T M R k) => h1.foot_lt hk
  have hseq := words_stops Fence.wide 5 trivial rfl (by decide) (w.heap.size + 1) h1.ok h1.seg.most hbx hm hfl
  obtain ⟨hTw, hthead, _, _⟩ := h.head
  refine wpIn_rangeFunc_ownH rfl (by decide) (gf := 51) (lb := #[.pointer (some ⟨w.heap.size + 1, 0, none⟩)]) rfl trivial (enters_of Try.func51 (by kernel_rfl) rfl) hseq (fun h k => TxKeep.trans h k) (fun W l o o' hl h hc hw => TxKeep.put hfl (by omega) W l o o' hl h hc hw) (Below.refl _ _) (fun _ => rfl)
    (fun pre W => ApplyI w w.heap.size T B D (applyI ws l pre) W)
    (fun _ _ _ => False)
    (ApplyI.own w _ _ _ _ _ (applyI ws l) (by omega))
    (fun _ _ _ _ _ hs _ _ => hs)
    ⟨h1.seg, grown_any hg1 _, by omega, hb0⟩
    (fun x a' W => ∃ Bx, w.heap.size + 1 < Bx ∧ W.heap[Bx]? = some (.cells #[.int .u64 (txX l x : Nat), .int .u64 (txV l x : Nat)] 38 (0, 0)) ∧ a' = { tmps := #[.pointer (some ⟨T, 0, none⟩), .pointer (some ⟨w.heap.size, 0, none⟩), .pointer (some ⟨Bx, 0, none⟩), .pointer (some ⟨T, 0, none⟩), .func (.func 51) #[] #[.pointer (some ⟨w.heap.size + 1, 0, none⟩)], .agg #[.int .u64 (txX l x : Nat), .int .u64 (txV l x : Nat)], undef, undef, undef, undef, undef, undef, undef, undef, undef], defers := [] })
    (fun x a' _ X Y row hs hg hr => by
      obtain ⟨Bx, h1, h2, h3⟩ := hs
      refine ⟨Bx, h1, (hg.block Bx (lt_of_block h2) (fun e => ?_)).trans h2, h3⟩
      obtain ⟨_, o, ho, hc⟩ := hr Bx e.symm
      rw [h2] at ho; cases ho; cases hc)
    ?assign ?body ?done ?stop
  case assign =>
    rintro yl pre x W K hI hK
    gi_wp2
    have hwl := hI.big
    exact hK _ _ ((KeepsOthers.alloc _ _).from _) (TxKeep.grown (World.grownBy_alloc _ _ none) (fun k hk => by have := hfl k hk; omega) (by omega) (fun g hg => by cases hg)) ⟨hI.seg.later (World.grownBy_alloc _ _ _), grown_step hI.grown (World.grownBy_alloc _ _ none) (fun i hi => by cases hi), (by rw [World.size_alloc]; omega), (Below.heap_alloc _ _ _ (lt_of_block hI.box)).trans hI.box⟩ ⟨W.heap.size, by omega, heap_alloc_new' _ _, rfl⟩
  case body =>
    rintro yl pre x a' W hl ⟨r, hr⟩ hI ⟨Bx, hBx, bX, rfl⟩ hlt
    have cb : W.cell? ⟨w.heap.size, 0, none⟩ = some (.pointer (some ⟨T, 0, none⟩)) := cell_of_one hI.box
    have hTD : T ≠ D := fun e => h.notD (.inl e.symm)
    have cT : W.cell? ⟨T, 0, none⟩ = some (.pointer (some ⟨B, 0, none⟩)) := by
      have := (hI.grown.block T h.ltT (by simpa using hTD)).trans hthead
      simp [World.cell?, this]
    have cx0 : W.cell? ⟨Bx, 0, none⟩ = some (.int .u64 (txX l x : Nat)) := by simp [World.cell?, bX]
    have cx1 : W.cell? ⟨Bx, 1, none⟩ = some (.int .u64 (txV l x : Nat)) := by simp [World.cell?, bX]
    have hX := h.ok.lt h.seg.most x
    have hst := (callsIn_wide (n := 3)).2 (store_any (w := W.drew) (hI.seg.later (grown_drew (grown_refl _ _))) (txX l x) (txV l x) hX.1 hX.2)
    gi_wp2
    refine wpIn_region_still_tail 8 hmx (by kernel_rfl) (by kernel_rfl) ?_
    simp only [List.take_succ_cons, List.take_zero, List.drop_succ_cons, List.drop_zero]
    repeat still_step
    refine wpStill_nil ?_
    gi_wp2_with (refine ⟨trivial, ?_⟩; gi_at_call 15; refine (CallsIn.inRound yl hst).mono ?_; rintro e w3 ⟨rfl, hg3, hs3⟩)
    have hgd : W.grownBy w3 (some D) := grown_trans (grown_drew (grown_refl _ _)) hg3
    have hbD : w.heap.size ≠ D := fun e => by have := h.seg.ltD; omega
    refine ⟨(KeepsOthers.of_grownBy hgd (fun j o ej hj => ?_)).from _, TxKeep.grown hgd (fun k hk => ?_) ?_ (fun g hg => ?_), ⟨?_, grown_trans hI.grown hgd, Nat.le_trans hI.big hgd.size, (hgd.block _ (lt_of_block hI.box) (by simpa using hbD)).trans hI.box⟩⟩
    · injection ej with ej
      subst ej
      rw [hI.seg.data] at hj; cases hj; rfl
    · have := hfl k hk
      have := hI.big
      omega
    · have := hI.big
      omega
    · injection hg with hg
      subst hg
      exact ⟨h.notD, by have := h.seg.ltD; omega⟩
    · rw [applyI_snoc]
      exact hs3
  case done =>
    rintro D2 ys W hD rfl hI hK
    gi_wp2
    refine ⟨by simp, .inl ⟨_, _, rfl, run_takeDeferred hK, ?_⟩⟩
    have hg := grownBy_putObj' W D2 (.deferred none)
    have hne : ∀ {b : Nat} {c : Array Value} {t : TypeId} {fr : Nat × Nat}, W.heap[b]? = some (.cells c t fr) → some D2 ≠ some b := fun h e => by
      injection e with e
      subst e
      rw [hK] at h; cases h
    refine ⟨_, results_none rfl _ _ _, rfl, grown_step hI.grown hg (fun i hi => .inl (by injection hi with hi; omega)), ?_⟩
    rw [← applyI_all]
    exact hI.seg.kept hg (hne hI.seg.head) (hne hI.seg.data)
  case stop =>
    rintro D c pre W _ _ h _
    exact h.elim
theorem txapply_any (h : Thinks w T M R B D ws l) :
    Calls Try.prog 22 #[.pointer (some ⟨T, 0, none⟩)] w fun e w' => e = .returned (.tuple #[]) ∧ w.grownBy w' (some D) ∧ Thinks w' T M R B D (txApply ws l) l :=
  (callsIn_wide.1 (txapply_in h)).mono fun e w' ⟨h1, h2, h3⟩ => ⟨h1, h2, h.seg_turned h2 h3 (txApply_len _ _)⟩
set_option maxRecDepth 100000 in
set_option maxHeartbeats 1000000 in
theorem txapply_nil (w : World) : Calls Try.prog 22 #[.pointer none] w fun e w' => e = .returned (.tuple #[]) ∧ w.grownBy w' none := by
  refine (callsIn_wide (n := 6)).1 ?_
  have hg1 : w.grownBy ((w.alloc (.cells #[.pointer none] 42)).alloc (.cells #[.pointer none] 42)) none := grown_trans (World.grownBy_alloc _ _ _) (World.grownBy_alloc _ _ _)
  refine callsIn_of_wp_marks Try.func22 rfl trivial ?_ rfl
  simp only [Try.ntmps22, List.size_toArray, List.length_cons, List.length_nil, Nat.reduceAdd, Nat.reduceSub, Array.replicate_succ, Array.replicate_zero, List.push_toArray, List.append_toArray, List.nil_append, List.cons_append]
  gi_wp2_with (refine ⟨trivial, ?_⟩; gi_at_call 44; refine (callsIn_wide.2 (words_any _ _)).mono ?_; rintro e w' ⟨rfl, rfl⟩)
  have hbx : ((w.alloc (.cells #[.pointer none] 42)).alloc (.cells #[.pointer none] 42)).heap[w.heap.size + 1]? = some (.cells #[.pointer none] 42 (0, 0)) := by
    have := heap_alloc_new' (w.alloc (.cells #[.pointer none] 42)) (.cells #[.pointer none] 42)
    rwa [World.size_alloc] at this
  obtain ⟨W0, hW0⟩ : ∃ W0, (w.alloc (.cells #[.pointer none] 42)).alloc (.cells #[.pointer none] 42) = W0 := ⟨_, rfl⟩
  rw [hW0] at hg1 hbx ⊢
  clear hW0
  have hseq := words_stops_nil Fence.wide 5 trivial rfl (by decide) (w.heap.size + 1) (Kp := fun _ _ => True) (fun x : Nat => #[.agg #[.int .u64 (txX [] x : Nat), .int .u64 (txV [] x : Nat)]]) hbx
  refine wpIn_rangeFunc_ownH rfl (by decide) (gf := 51) (lb := #[.pointer (some ⟨w.heap.size + 1, 0, none⟩)]) rfl trivial (enters_of Try.func51 (by kernel_rfl) rfl) hseq (fun _ _ => trivial) (fun _ _ _ _ _ _ _ _ => trivial) (Below.refl _ _) (fun _ => rfl)
    (fun _ W => Below w.heap.size w W)
    (fun _ _ _ => False)
    (ownFrom_below (Nat.le_refl _) hg1.size)
    (fun _ _ _ _ _ hs _ _ => hs)
    (grown_below hg1)
    (fun x a' W => True) (fun _ _ _ _ _ _ _ _ _ => trivial)
    ?assign ?body ?done ?stop
  case assign =>
    rintro yl pre x W K hI hK
    gi_wp2
    exact hK _ _ ((KeepsOthers.alloc _ _).from _) trivial (hI.alloc hI.size _) trivial
  case body =>
    rintro yl pre x a' W hl hr hI _ hlt
    exact absurd hlt (Nat.not_lt_zero _)
  case done =>
    rintro D2 ys W hD rfl hI hK
    gi_wp2
    refine ⟨by simp, .inl ⟨_, _, rfl, run_takeDeferred hK, ?_⟩⟩
    exact ⟨_, results_none rfl _ _ _, rfl, below_grown (hI.trans (belowK_b (w := w) (Nat.le_refl _) W D2 _ _ (Nat.le_trans hg1.size hD) hK rfl rfl))⟩
  case stop =>
    rintro D c pre W _ _ h _
    exact h.elim
end
end Go.Proofs.Ytojkebnjohanaaa
