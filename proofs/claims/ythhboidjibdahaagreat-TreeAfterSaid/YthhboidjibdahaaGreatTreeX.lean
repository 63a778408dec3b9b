/-
  A loop over an iterator that has a row of numbers of its own, while the loop's body has one, too: what the iterator owes, and what the loop may lean on.
  No condition.
-/
import Derived.Test.YthhboidjibdahaaGreatTreeBa
import Derived.Test.YthhboidjibdahaaGreatLPhys
import Derived.Maps.OwnIn
namespace Go.Proofs.YthhboidjibdahaaGreat
open Go.RowKit Go.Shelf
set_option linter.unusedVariables false
set_option linter.unusedSimpArgs false
attribute [local go_sem] Oper.semAt_some

/-- a row of numbers that the variable in block lb doesn't lead to -/
def Aside (lb : Nat) (A : World) (r : Nat) : Prop := (∃ c fr, A.heap[r]? = some (.cells c 33 fr)) ∧ ¬ RowAt lb A r
/-- What stays where such a row turns. -/
def Bears (lb B : Nat) (J : List Nat → World → Prop) : Prop := ∀ s A C row, J s A → A.grownBy C row → (∀ r, row = some r → B ≤ r ∧ Aside lb A r) → J s C
/-- .. and where what is no cells turns, too. -/
def Rests (lb B : Nat) (J : List Nat → World → Prop) : Prop := ∀ s A C row, J s A → A.grownBy C row → (∀ r, row = some r → B ≤ r ∧ ((∃ o : Obj, A.heap[r]? = some o ∧ o.isCells = false) ∨ Aside lb A r)) → J s C
/-- What a body that goes on keeps: what stood below n0; all cells but the variable in block lb, and the row that it leads to. -/
structure TkKeep (n0 lb : Nat) (A C : World) : Prop where
  below : Below n0 A C
  frame : ∀ b, (∃ c t fr, A.heap[b]? = some (.cells c t fr)) → b ≠ lb → ¬ RowAt lb A b → C.heap[b]? = A.heap[b]?
  row : ∀ b, RowAt lb C b → RowAt lb A b ∨ (A.heap.size ≤ b ∧ b < C.heap.size)
theorem TkKeep.trans {n0 lb : Nat} {A C E : World} (h : TkKeep n0 lb A C) (k : TkKeep n0 lb C E) : TkKeep n0 lb A E where
  below := h.below.trans k.below
  frame := fun b hb hn hr => by
    have e := h.frame b hb hn hr
    obtain ⟨c, t, fr, hb⟩ := hb
    refine (k.frame b ⟨c, t, fr, e.trans hb⟩ hn (fun hC => ?_)).trans e
    rcases h.row b hC with h1 | h1
    · exact hr h1
    · have := lt_of_block hb; omega
  row := fun b hb => by
    have h1 := h.below.size
    have h2 := k.below.size
    rcases k.row b hb with h3 | h3
    · rcases h.row b h3 with h4 | h4
      · exact .inl h4
      · exact .inr ⟨h4.1, by omega⟩
    · exact .inr ⟨by omega, h3.2⟩
theorem TkKeep.put {n0 lb : Nat} {w0 : World} (hlb : lb < w0.heap.size) (hn : n0 ≤ w0.heap.size) (W : World) (l : Nat) (o o' : Obj) (hl : w0.heap.size ≤ l) (h : W.heap[l]? = some o) (hc : o.isCells = false) (hw : o.isWalk = false) : TkKeep n0 lb W (W.putObj l o') where
  below := belowK_b (w := w0) hn W l o o' hl h hc hw
  frame := fun b hb _ _ => World.putObj_heap_other (fun e => by
    obtain ⟨c, t, fr, hb⟩ := hb
    subst e; rw [h] at hb; cases hb; cases hc)
  row := fun b hb => .inl (by
    obtain ⟨v, h1, h2⟩ := hb
    refine ⟨v, ?_, h2⟩
    have : (W.putObj l o').heap[lb]? = W.heap[lb]? := World.putObj_heap_other (by omega)
    unfold World.cell? at h1 ⊢
    simp only [this] at h1
    exact h1)
/-- What an iterator owes: it tells what stands at the places below N, one behind the other. -/
def Tells (n gf : Nat) (cb : Array Value) (enc : Nat → Array Value) (N lb n0 : Nat) (w : World) : Prop :=
  ∀ (yl : Nat) (J Jx : List Nat → World → Prop) (W : World), Below w.heap.size w W → Bears lb W.heap.size J → Bears lb W.heap.size Jx →
    (∀ pre x V, J pre V → pre.length < N → YieldAt Fence.wide (n - 1) Tryz.prog yl (enc x) V fun e V' => (e = .returned (.bool true) ∧ J (pre ++ [x]) V' ∧ TkKeep n0 lb V V') ∨ (e = .returned (.bool false) ∧ Jx (pre ++ [x]) V')) →
    J [] W →
    CallsIn Fence.wide n Tryz.prog gf (#[.func (.yield yl) #[] #[]] ++ cb) W fun e V => (∃ v, e = .returned v) ∧ ((∃ ys, ys = List.range N ∧ J ys V) ∨ (∃ pre, (∃ m, m ≤ N ∧ pre = List.range m) ∧ Jx pre V))
section
variable {n : Nat} {w w0 : World}
theorem Rests.put {lb B : Nat} {J : List Nat → World → Prop} (h : Rests lb B J) {s : List Nat} {W : World} {l : Nat} {o : Obj} (o' : Obj) (hs : J s W) (hB : B ≤ l) (hl : W.heap[l]? = some o) (ho : o.isCells = false) : J s (W.putObj l o') :=
  h s W _ (some l) hs (grownBy_putObj' W l o') fun r e => by cases e; exact ⟨hB, .inl ⟨o, hl, ho⟩⟩
theorem loop_stays {A C : World} {row : Option Nat} {lb B l : Nat} {o : Obj} (hg : A.grownBy C row) (hr : ∀ r, row = some r → B ≤ r ∧ Aside lb A r) (hl : A.heap[l]? = some o) (ho : o.isCells = false) : C.heap[l]? = some o := by
  refine (hg.block l (lt_of_block hl) fun e => ?_).trans hl
  obtain ⟨_, ⟨c, fr, h2⟩, _⟩ := hr l e.symm
  rw [hl] at h2; cases h2; cases ho
/-- The loop, over such an iterator. -/
theorem range_tells {g : Operand} {ps : Array Tmp} {assign body : Code} {Q : Exit → Act → World → Prop} {a : Act} (h1 : 1 ≤ n) {gf : Nat} {cb : Array Value} (hg : a.eval g = .func (.func gf) #[] cb)
    (eg : ∀ args w, (callFunc gf args).run Tryz.prog w = .ok (.enter gf args) w) {enc : Nat → Array Value} {N lb n0 : Nat} (hseq : Tells (n - 1) gf cb enc N lb n0 w0) (hb0 : Below w0.heap.size w0 w) (hn0 : n0 ≤ w.heap.size) (hlb : lb < w.heap.size) (hps : ∀ x, (enc x).size = ps.size)
    (I : List Nat → World → Prop) (Ix : Code → List Nat → World → Prop) (hI : Rests lb w.heap.size I) (hIx : ∀ c, Rests lb w.heap.size (Ix c)) (h0 : I [] w) (a1 : Nat → Act)
    (hassign : ∀ (l x : Nat) (W : World) (K : Act → World → Prop), K (a1 x) W → assign.wpIn (Fence.wide.inRound l) (n - 1 - 1) Tryz.prog (Exit.then K fun _ _ _ => False) { tmps := (ps.zip (enc x)).foldl (fun t (p, v) => t.setIfInBounds p v) a.tmps, defers := [] } W)
    (hbody : ∀ (l : Nat) (pre : List Nat) (x : Nat) (W : World), I pre W → pre.length < N → body.wpIn (Fence.wide.inRound l) (n - 1 - 1) Tryz.prog (ownPostG w.heap.size (TkKeep n0 lb) I Ix (pre ++ [x]) W) (a1 x) W)
    (hdone : ∀ (D : Nat) (W : World), w.heap.size ≤ D → I (List.range N) W → W.heap[D]? = some (.deferred (some [])) → Q .normal { a with defers := { target := .collected D, args := #[] } :: a.defers } W)
    (hstop : ∀ (D : Nat) (c : Code) (m : Nat) (W : World), w.heap.size ≤ D → m ≤ N → Ix c (List.range m) W → W.heap[D]? = some (.deferred (some [])) → c.wpIn Fence.wide n Tryz.prog Q { a with defers := { target := .collected D, args := #[] } :: a.defers } W) :
    (Code.rangeFunc g ps assign body).wpIn Fence.wide n Tryz.prog Q a w := by
  refine wpIn_rangeFunc fun fn hfn => ?_
  rw [show Fence.wide.round = none from rfl]
  obtain ⟨rec, hrec⟩ : ∃ rec : LoopState → Option Code → Loop, rec = fun st pe => { state := st, pending := pe, fn, tmps := a.tmps, params := ps, assign, body, defers := w.heap.size } := ⟨_, rfl⟩
  have hga := grown_trans (World.grownBy_alloc w (.deferred (some [])) none) (World.grownBy_alloc (w.alloc (.deferred (some []))) (.loop (rec .ready none)) none)
  have hD := (Below.heap_alloc (w.alloc (.deferred (some []))) (.loop (rec .ready none)) _ (by simp)).trans (World.alloc_heap_new w (.deferred (some [])))
  have hL := World.alloc_heap_new (w.alloc (.deferred (some []))) (.loop (rec .ready none))
  rw [World.size_alloc] at hL
  have hen := run_enterLoop_outer (P := Tryz.prog) (w := w) fn a.tmps ps assign body
  obtain ⟨V0, hV0⟩ : ∃ V0, (w.alloc (.deferred (some []))).alloc (.loop (rec .ready none)) = V0 := ⟨_, rfl⟩
  have hen2 : (Instr.enterLoop fn a.tmps ps assign body none).run Tryz.prog w = .ok (w.heap.size + 1, [{ target := .collected w.heap.size, args := #[] }]) V0 := by
    rw [← hV0, hrec]; exact hen
  rw [hV0] at hga hD hL
  refine ⟨w.heap.size + 1, [{ target := .collected w.heap.size, args := #[] }], V0, { target := .fn (.func gf) cb, args := #[.func (.yield (w.heap.size + 1)) #[] #[]] }, V0, gf, #[.func (.yield (w.heap.size + 1)) #[] #[]] ++ cb, V0, hen2, ?_, fun f' hf' => trivial, ?_, fun _ => h1, ?_⟩
  · simp only [resolve, hg]; simp [go_sem]
  · simp [invoke, go_sem, eg]
  have hsz0 : w.heap.size + 2 = V0.heap.size := by rw [← hV0]; simp
  have hround := hseq (w.heap.size + 1)
    (fun pre W => I pre W ∧ W.heap[w.heap.size + 1]? = some (.loop (rec .ready none)) ∧ W.heap[w.heap.size]? = some (.deferred (some [])))
    (fun pre W => ∃ c, Ix c pre W ∧ W.heap[w.heap.size + 1]? = some (.loop (rec .done (some c))) ∧ W.heap[w.heap.size]? = some (.deferred (some [])))
    V0 (hb0.grown hga hb0.size (fun k e => by cases e))
    (fun s A C row hs hg' hr => ⟨hI s A C row hs.1 hg' (fun r e => ⟨by have := (hr r e).1; omega, .inr (hr r e).2⟩), loop_stays hg' hr hs.2.1 rfl, loop_stays hg' hr hs.2.2 rfl⟩)
    (fun s A C row ⟨c, hc, hl, hk⟩ hg' hr => ⟨c, hIx c s A C row hc hg' (fun r e => ⟨by have := (hr r e).1; omega, .inr (hr r e).2⟩), loop_stays hg' hr hl rfl, loop_stays hg' hr hk rfl⟩)
    ?_ ⟨hI [] w V0 none h0 hga (fun r e => by cases e), hL, hD⟩
  · refine hround.mono ?_
    rintro e W2 ⟨⟨v, rfl⟩, (⟨ys, rfl, hi, hl, hk⟩ | ⟨pre, ⟨m, hm, rfl⟩, c, hi, hl, hk⟩)⟩
    · have hend := run_endLoop (P := Tryz.prog) hl (by rw [hrec]; simp)
      rw [hrec] at hend
      exact ⟨none, _, hend, hdone _ _ (Nat.le_refl _) (hI.put _ hi (by omega) hl rfl) ((World.putObj_heap_other (by omega)).trans hk)⟩
    · have hend := run_endLoop (P := Tryz.prog) hl (by rw [hrec]; simp)
      rw [hrec] at hend
      exact ⟨some c, _, hend, hstop _ c m _ (Nat.le_refl _) hm ((hIx c).put _ hi (by omega) hl rfl) ((World.putObj_heap_other (by omega)).trans hk)⟩
  rintro pre x W ⟨hi, hl, hk⟩ hlen
  have hy := run_yield (P := Tryz.prog) (args := enc x) hl (by rw [hrec]; exact hps x)
  rw [hrec] at hy
  refine ⟨fn, _, assign, body, hy, roundIn_of_wpIn hfn (hassign _ x W _ ?_)⟩
  refine ⟨_, run_beginRound hl (by rw [hrec]), ?_⟩
  have hlt := lt_of_block hl
  obtain ⟨busy, hbusy⟩ : ∃ busy : Loop, busy = { rec .ready none with state := .busy } := ⟨_, rfl⟩
  rw [← hbusy]
  have hl2 : (W.putObj (w.heap.size + 1) (.loop busy)).heap[w.heap.size + 1]? = some (.loop busy) := World.putObj_heap_same hlt
  have hk2 : (W.putObj (w.heap.size + 1) (.loop busy)).heap[w.heap.size]? = some (.deferred (some [])) := (World.putObj_heap_other (by omega)).trans hk
  have hkp : TkKeep n0 lb W (W.putObj (w.heap.size + 1) (.loop busy)) := TkKeep.put (w0 := w) hlb hn0 _ _ _ _ (by omega) hl rfl rfl
  have hend : ∀ (jump : Option Code) (W3 : World), KeepsFrom w.heap.size (W.putObj (w.heap.size + 1) (.loop busy)) W3 → ∃ r : Loop, r = rec (if jump.isNone then .ready else .done) jump ∧ (Instr.endRound (w.heap.size + 1) jump).run Tryz.prog W3 = .ok (.bool jump.isNone) (W3.putObj (w.heap.size + 1) (.loop r)) ∧ W3.heap[w.heap.size + 1]? = some (.loop busy) ∧ (W3.putObj (w.heap.size + 1) (.loop r)).heap[w.heap.size + 1]? = some (.loop r) ∧ (W3.putObj (w.heap.size + 1) (.loop r)).heap[w.heap.size]? = some (.deferred (some [])) := fun jump W3 hk3 => by
    have hl3 := hk3.same _ _ (by omega) hl2 rfl
    have hr := run_endRound (P := Tryz.prog) jump hl3
    rw [hbusy, hrec] at hr
    refine ⟨_, rfl, ?_, hl3, World.putObj_heap_same (lt_of_block hl3), (World.putObj_heap_other (by omega)).trans (hk3.same _ _ (Nat.le_refl _) hk2 rfl)⟩
    rw [hrec]
    exact hr
  refine wpIn_mono (hbody _ pre x _ (hI.put _ hi (by omega) hl rfl) hlen) ?_
  rintro e a3 W3 hp
  cases e with
  | normal =>
    obtain ⟨hk3, hkp3, hi3⟩ := hp
    obtain ⟨r, hre, hr, hl3, hl4, hk4⟩ := hend none W3 hk3
    refine ⟨_, _, hr, .inl ⟨rfl, ⟨hI.put _ hi3 (by omega) hl3 rfl, hl4.trans (by rw [hre]; rfl), hk4⟩, hkp.trans (hkp3.trans (TkKeep.put (w0 := w) hlb hn0 _ _ _ _ (by omega) hl3 rfl rfl))⟩⟩
  | ret =>
    obtain ⟨hk3, hi3⟩ := hp
    obtain ⟨r, hre, hr, hl3, hl4, hk4⟩ := hend (some .ret) W3 hk3
    exact ⟨_, _, hr, .inr ⟨rfl, .ret, (hIx _).put _ hi3 (by omega) hl3 rfl, hl4.trans (by rw [hre]; rfl), hk4⟩⟩
  | exit id =>
    obtain ⟨hk3, hi3⟩ := hp
    obtain ⟨r, hre, hr, hl3, hl4, hk4⟩ := hend (some (.exit id)) W3 hk3
    exact ⟨_, _, hr, .inr ⟨rfl, .exit id, (hIx _).put _ hi3 (by omega) hl3 rfl, hl4.trans (by rw [hre]; rfl), hk4⟩⟩
  | goto t =>
    obtain ⟨hk3, hi3⟩ := hp
    obtain ⟨r, hre, hr, hl3, hl4, hk4⟩ := hend (some (.goto t)) W3 hk3
    exact ⟨_, _, hr, .inr ⟨rfl, .goto t, (hIx _).put _ hi3 (by omega) hl3 rfl, hl4.trans (by rw [hre]; rfl), hk4⟩⟩
  | panic ch => exact hp.elim
  | outgrown => exact hp.elim
end
end Go.Proofs.YthhboidjibdahaaGreat
