/-
  Texts of one layer, one behind the other: memory, contracts of the functions, and what follows of them.
  Conditions: as each theorem says.
-/
import Derived.Test.YtcbdbflgfhbikaaGreatLTrf
import Derived.Test.YtcbdbflgfhbikaaGreatLPha
import Derived.Maps.OwnIn
import Derived.Test.YtcbdbflgfhbikaaGreatLTrd
set_option linter.unusedVariables false
set_option linter.unusedSimpArgs false
namespace Go.Proofs.YtcbdbflgfhbikaaGreat
open Go.RowKit Go.Shelf
attribute [local go_sem] Oper.semAt_some
def Aside (lb : Nat) (A : World) (r : Nat) : Prop := (∃ c fr, A.heap[r]? = some (.cells c 23 fr)) ∧ ¬ RowAt lb A r
def Bears (lb B : Nat) (J : List Nat → World → Prop) : Prop := ∀ s A C row, J s A → A.grownBy C row → (∀ r, row = some r → B ≤ r ∧ Aside lb A r) → J s C
def Rests (lb B : Nat) (J : List Nat → World → Prop) : Prop := ∀ s A C row, J s A → A.grownBy C row → (∀ r, row = some r → B ≤ r ∧ ((∃ o : Obj, A.heap[r]? = some o ∧ o.isCells = false) ∨ Aside lb A r)) → J s C
structure TkKeep (n0 lb : Nat) (A C : World) : Prop where
  below : Below n0 A C
  frame : ∀ b, (∃ c t fr, A.heap[b]? = some (.cells c t fr)) → b ≠ lb → ¬ RowAt lb A b → C.heap[b]? = A.heap[b]?
  row : ∀ b, RowAt lb C b → RowAt lb A b ∨ (A.heap.size ≤ b ∧ b < C.heap.size)
theorem TkKeep.trans {n0 lb : Nat} {A C E : World} (h : TkKeep n0 lb A C) (k : TkKeep n0 lb C E) : TkKeep n0 lb A E where
  below := h.below.trans k.below
  frame := fun b hb hn hr => by
    have e := h.frame b hb hn hr
    obtain ⟨c, t, fr, hb⟩ := hb
    refine (k.frame b ⟨c, t, fr, e.trans hb⟩ hn (fun hC => ?_)).trans e
    rcases h.row b hC with h1 | h1
    · exact hr h1
    · have := lt_of_block hb; omega
  row := fun b hb => by
    have h1 := h.below.size
    have h2 := k.below.size
    rcases k.row b hb with h3 | h3
    · rcases h.row b h3 with h4 | h4
      · exact .inl h4
      · exact .inr ⟨h4.1, by omega⟩
    · exact .inr ⟨by omega, h3.2⟩
theorem TkKeep.put {n0 lb : Nat} {w0 : World} (hlb : lb < w0.heap.size) (hn : n0 ≤ w0.heap.size) (W : World) (l : Nat) (o o' : Obj) (hl : w0.heap.size ≤ l) (h : W.heap[l]? = some o) (hc : o.isCells = false) (hw : o.isWalk = false) : TkKeep n0 lb W (W.putObj l o') where
  below := belowK_b (w := w0) hn W l o o' hl h hc hw
  frame := fun b hb _ _ => World.putObj_heap_other (fun e => by
    obtain ⟨c, t, fr, hb⟩ := hb
    subst e; rw [h] at hb; cases hb; cases hc)
  row := fun b hb => .inl (by
    obtain ⟨v, h1, h2⟩ := hb
    refine ⟨v, ?_, h2⟩
    have : (W.putObj l o').heap[lb]? = W.heap[lb]? := World.putObj_heap_other (by omega)
    unfold World.cell? at h1 ⊢
    simp only [this] at h1
    exact h1)
def TellsG (n gf : Nat) (cb : Array Value) (enc : Nat → Array Value) (N lb n0 : Nat) (w : World) : Prop :=
  ∀ (yl : Nat) (J Jx : List Nat → World → Prop) (W : World), Below w.heap.size w W → Bears lb W.heap.size J → Bears lb W.heap.size Jx →
    (∀ pre x V, J pre V → pre.length < N → YieldAt Fence.wide (n - 1) Tryz.prog yl (enc x) V fun e V' => (e = .returned (.bool true) ∧ J (pre ++ [x]) V' ∧ TkKeep n0 lb V V') ∨ (e = .returned (.bool false) ∧ Jx (pre ++ [x]) V')) →
    J [] W →
    CallsIn Fence.wide n Tryz.prog gf (#[.func (.yield yl) #[] #[]] ++ cb) W fun e V => (∃ v, e = .returned v) ∧ ((∃ ys, ys = List.range N ∧ J ys V) ∨ (∃ pre, (∃ m, m ≤ N ∧ pre = List.range m) ∧ Jx pre V))
section
variable {n : Nat} {w w0 : World}
theorem Rests.put {lb B : Nat} {J : List Nat → World → Prop} (h : Rests lb B J) {s : List Nat} {W : World} {l : Nat} {o : Obj} (o' : Obj) (hs : J s W) (hB : B ≤ l) (hl : W.heap[l]? = some o) (ho : o.isCells = false) : J s (W.putObj l o') :=
  h s W _ (some l) hs (grownBy_putObj' W l o') fun r e => by cases e; exact ⟨hB, .inl ⟨o, hl, ho⟩⟩
theorem loop_stays {A C : World} {row : Option Nat} {lb B l : Nat} {o : Obj} (hg : A.grownBy C row) (hr : ∀ r, row = some r → B ≤ r ∧ Aside lb A r) (hl : A.heap[l]? = some o) (ho : o.isCells = false) : C.heap[l]? = some o := by
  refine (hg.block l (lt_of_block hl) fun e => ?_).trans hl
  obtain ⟨_, ⟨c, fr, h2⟩, _⟩ := hr l e.symm
  rw [hl] at h2; cases h2; cases ho
theorem range_tells {g : Operand} {ps : Array Tmp} {assign body : Code} {Q : Exit → Act → World → Prop} {a : Act} (h1 : 1 ≤ n) {gf : Nat} {cb : Array Value} (hg : a.eval g = .func (.func gf) #[] cb)
    (eg : ∀ args w, (callFunc gf args).run Tryz.prog w = .ok (.enter gf args) w) {enc : Nat → Array Value} {N lb n0 : Nat} (hseq : TellsG (n - 1) gf cb enc N lb n0 w0) (hb0 : Below w0.heap.size w0 w) (hn0 : n0 ≤ w.heap.size) (hlb : lb < w.heap.size) (hps : ∀ x, (enc x).size = ps.size)
    (I : List Nat → World → Prop) (Ix : Code → List Nat → World → Prop) (hI : Rests lb w.heap.size I) (hIx : ∀ c, Rests lb w.heap.size (Ix c)) (h0 : I [] w) (a1 : Nat → Act)
    (hassign : ∀ (l x : Nat) (W : World) (K : Act → World → Prop), K (a1 x) W → assign.wpIn (Fence.wide.inRound l) (n - 1 - 1) Tryz.prog (Exit.then K fun _ _ _ => False) { tmps := (ps.zip (enc x)).foldl (fun t (p, v) => t.setIfInBounds p v) a.tmps, defers := [] } W)
    (hbody : ∀ (l : Nat) (pre : List Nat) (x : Nat) (W : World), I pre W → pre.length < N → body.wpIn (Fence.wide.inRound l) (n - 1 - 1) Tryz.prog (ownPostG w.heap.size (TkKeep n0 lb) I Ix (pre ++ [x]) W) (a1 x) W)
    (hdone : ∀ (D : Nat) (W : World), w.heap.size ≤ D → I (List.range N) W → W.heap[D]? = some (.deferred (some [])) → Q .normal { a with defers := { target := .collected D, args := #[] } :: a.defers } W)
    (hstop : ∀ (D : Nat) (c : Code) (m : Nat) (W : World), w.heap.size ≤ D → m ≤ N → Ix c (List.range m) W → W.heap[D]? = some (.deferred (some [])) → c.wpIn Fence.wide n Tryz.prog Q { a with defers := { target := .collected D, args := #[] } :: a.defers } W) :
    (Code.rangeFunc g ps assign body).wpIn Fence.wide n Tryz.prog Q a w := by
  refine wpIn_rangeFunc fun fn hfn => ?_
  rw [show Fence.wide.round = none from rfl]
  obtain ⟨rec, hrec⟩ : ∃ rec : LoopState → Option Code → Loop, rec = fun st pe => { state := st, pending := pe, fn, tmps := a.tmps, params := ps, assign, body, defers := w.heap.size } := ⟨_, rfl⟩
  have hga := grown_trans (World.grownBy_alloc w (.deferred (some [])) none) (World.grownBy_alloc (w.alloc (.deferred (some []))) (.loop (rec .ready none)) none)
  have hD := (Below.heap_alloc (w.alloc (.deferred (some []))) (.loop (rec .ready none)) _ (by simp)).trans (World.alloc_heap_new w (.deferred (some [])))
  have hL := World.alloc_heap_new (w.alloc (.deferred (some []))) (.loop (rec .ready none))
  rw [World.size_alloc] at hL
  have hen := run_enterLoop_outer (P := Tryz.prog) (w := w) fn a.tmps ps assign body
  obtain ⟨V0, hV0⟩ : ∃ V0, (w.alloc (.deferred (some []))).alloc (.loop (rec .ready none)) = V0 := ⟨_, rfl⟩
  have hen2 : (Instr.enterLoop fn a.tmps ps assign body none).run Tryz.prog w = .ok (w.heap.size + 1, [{ target := .collected w.heap.size, args := #[] }]) V0 := by
    rw [← hV0, hrec]; exact hen
  rw [hV0] at hga hD hL
  refine ⟨w.heap.size + 1, [{ target := .collected w.heap.size, args := #[] }], V0, { target := .fn (.func gf) cb, args := #[.func (.yield (w.heap.size + 1)) #[] #[]] }, V0, gf, #[.func (.yield (w.heap.size + 1)) #[] #[]] ++ cb, V0, hen2, ?_, fun f' hf' => trivial, ?_, fun _ => h1, ?_⟩
  · simp only [resolve, hg]; simp [go_sem]
  · simp [invoke, go_sem, eg]
  have hsz0 : w.heap.size + 2 = V0.heap.size := by rw [← hV0]; simp
  have hround := hseq (w.heap.size + 1)
    (fun pre W => I pre W ∧ W.heap[w.heap.size + 1]? = some (.loop (rec .ready none)) ∧ W.heap[w.heap.size]? = some (.deferred (some [])))
    (fun pre W => ∃ c, Ix c pre W ∧ W.heap[w.heap.size + 1]? = some (.loop (rec .done (some c))) ∧ W.heap[w.heap.size]? = some (.deferred (some [])))
    V0 (hb0.grown hga hb0.size (fun k e => by cases e))
    (fun s A C row hs hg' hr => ⟨hI s A C row hs.1 hg' (fun r e => ⟨by have := (hr r e).1; omega, .inr (hr r e).2⟩), loop_stays hg' hr hs.2.1 rfl, loop_stays hg' hr hs.2.2 rfl⟩)
    (fun s A C row ⟨c, hc, hl, hk⟩ hg' hr => ⟨c, hIx c s A C row hc hg' (fun r e => ⟨by have := (hr r e).1; omega, .inr (hr r e).2⟩), loop_stays hg' hr hl rfl, loop_stays hg' hr hk rfl⟩)
    ?_ ⟨hI [] w V0 none h0 hga (fun r e => by cases e), hL, hD⟩
  · refine hround.mono ?_
    rintro e W2 ⟨⟨v, rfl⟩, (⟨ys, rfl, hi, hl, hk⟩ | ⟨pre, ⟨m, hm, rfl⟩, c, hi, hl, hk⟩)⟩
    · have hend := run_endLoop (P := Tryz.prog) hl (by rw [hrec]; simp)
      rw [hrec] at hend
      exact ⟨none, _, hend, hdone _ _ (Nat.le_refl _) (hI.put _ hi (by omega) hl rfl) ((World.putObj_heap_other (by omega)).trans hk)⟩
    · have hend := run_endLoop (P := Tryz.prog) hl (by rw [hrec]; simp)
      rw [hrec] at hend
      exact ⟨some c, _, hend, hstop _ c m _ (Nat.le_refl _) hm ((hIx c).put _ hi (by omega) hl rfl) ((World.putObj_heap_other (by omega)).trans hk)⟩
  rintro pre x W ⟨hi, hl, hk⟩ hlen
  have hy := run_yield (P := Tryz.prog) (args := enc x) hl (by rw [hrec]; exact hps x)
  rw [hrec] at hy
  refine ⟨fn, _, assign, body, hy, roundIn_of_wpIn hfn (hassign _ x W _ ?_)⟩
  refine ⟨_, run_beginRound hl (by rw [hrec]), ?_⟩
  have hlt := lt_of_block hl
  obtain ⟨busy, hbusy⟩ : ∃ busy : Loop, busy = { rec .ready none with state := .busy } := ⟨_, rfl⟩
  rw [← hbusy]
  have hl2 : (W.putObj (w.heap.size + 1) (.loop busy)).heap[w.heap.size + 1]? = some (.loop busy) := World.putObj_heap_same hlt
  have hk2 : (W.putObj (w.heap.size + 1) (.loop busy)).heap[w.heap.size]? = some (.deferred (some [])) := (World.putObj_heap_other (by omega)).trans hk
  have hkp : TkKeep n0 lb W (W.putObj (w.heap.size + 1) (.loop busy)) := TkKeep.put (w0 := w) hlb hn0 _ _ _ _ (by omega) hl rfl rfl
  have hend : ∀ (jump : Option Code) (W3 : World), KeepsFrom w.heap.size (W.putObj (w.heap.size + 1) (.loop busy)) W3 → ∃ r : Loop, r = rec (if jump.isNone then .ready else .done) jump ∧ (Instr.endRound (w.heap.size + 1) jump).run Tryz.prog W3 = .ok (.bool jump.isNone) (W3.putObj (w.heap.size + 1) (.loop r)) ∧ W3.heap[w.heap.size + 1]? = some (.loop busy) ∧ (W3.putObj (w.heap.size + 1) (.loop r)).heap[w.heap.size + 1]? = some (.loop r) ∧ (W3.putObj (w.heap.size + 1) (.loop r)).heap[w.heap.size]? = some (.deferred (some [])) := fun jump W3 hk3 => by
    have hl3 := hk3.same _ _ (by omega) hl2 rfl
    have hr := run_endRound (P := Tryz.prog) jump hl3
    rw [hbusy, hrec] at hr
    refine ⟨_, rfl, ?_, hl3, World.putObj_heap_same (lt_of_block hl3), (World.putObj_heap_other (by omega)).trans (hk3.same _ _ (Nat.le_refl _) hk2 rfl)⟩
    rw [hrec]
    exact hr
  refine wpIn_mono (hbody _ pre x _ (hI.put _ hi (by omega) hl rfl) hlen) ?_
  rintro e a3 W3 hp
  cases e with
  | normal =>
    obtain ⟨hk3, hkp3, hi3⟩ := hp
    obtain ⟨r, hre, hr, hl3, hl4, hk4⟩ := hend none W3 hk3
    refine ⟨_, _, hr, .inl ⟨rfl, ⟨hI.put _ hi3 (by omega) hl3 rfl, hl4.trans (by rw [hre]; rfl), hk4⟩, hkp.trans (hkp3.trans (TkKeep.put (w0 := w) hlb hn0 _ _ _ _ (by omega) hl3 rfl rfl))⟩⟩
  | ret =>
    obtain ⟨hk3, hi3⟩ := hp
    obtain ⟨r, hre, hr, hl3, hl4, hk4⟩ := hend (some .ret) W3 hk3
    exact ⟨_, _, hr, .inr ⟨rfl, .ret, (hIx _).put _ hi3 (by omega) hl3 rfl, hl4.trans (by rw [hre]; rfl), hk4⟩⟩
  | exit id =>
    obtain ⟨hk3, hi3⟩ := hp
    obtain ⟨r, hre, hr, hl3, hl4, hk4⟩ := hend (some (.exit id)) W3 hk3
    exact ⟨_, _, hr, .inr ⟨rfl, .exit id, (hIx _).put _ hi3 (by omega) hl3 rfl, hl4.trans (by rw [hre]; rfl), hk4⟩⟩
  | goto t =>
    obtain ⟨hk3, hi3⟩ := hp
    obtain ⟨r, hre, hr, hl3, hl4, hk4⟩ := hend (some (.goto t)) W3 hk3
    exact ⟨_, _, hr, .inr ⟨rfl, .goto t, (hIx _).put _ hi3 (by omega) hl3 rfl, hl4.trans (by rw [hre]; rfl), hk4⟩⟩
  | panic ch => exact hp.elim
  | outgrown => exact hp.elim
end
end Go.Proofs.YtcbdbflgfhbikaaGreat
namespace Go.Proofs.YtcbdbflgfhbikaaGreat
open Go.RowKit Go.Shelf
set_option maxRecDepth 100000
attribute [local go_sem] Oper.semAt_some
structure BhM (w W V : World) (wb kb lb T s o : Nat) (J : List Nat → World → Prop) (v : Value) (stk : List Nat) (i : Nat) : Prop where
  told : J (List.range i) V
  below : Below w.heap.size w V
  since : W.heap.size ≤ V.heap.size
  box : V.heap[wb]? = some (.cells #[.pointer (some ⟨T, 0, none⟩)] 135 (0, 0))
  key : V.heap[kb]? = some (.cells #[.int .u64 (s : Nat), .int .u64 (o : Nat)] 140 (0, 0))
  row : OwnW V W.heap.size v stk
  leads : ∀ b, RowAt lb V b → b < V.heap.size ∧ b ≠ wb ∧ b ≠ kb
  off : ∀ g, v.ownBlock = some g → ¬ RowAt lb V g
section
variable {w W V V' : World} {wb kb lb T s o i x : Nat} {J : List Nat → World → Prop} {v v' : Value} {stk : List Nat}
theorem RowAt.past {A C : World} {row : Option Nat} {b : Nat} (h : RowAt lb C b) (hg : A.grownBy C row) (hlb : lb < A.heap.size) (hr : row ≠ some lb) : RowAt lb A b := h.back hg hlb hr
theorem BhM.later (h : BhM w W V wb kb lb T s o J v stk i) (hJ : Bears lb W.heap.size J) (hlb : lb < W.heap.size) (hg : V.grownBy V' none) : BhM w W V' wb kb lb T s o J v stk i where
  told := hJ _ _ _ none h.told hg (fun r e => by cases e)
  below := h.below.grown hg h.below.size (fun k e => by cases e)
  since := Nat.le_trans h.since hg.size
  box := two_held1 h.box hg
  key := two_held h.key hg
  row := h.row.later hg
  leads := fun b hb => by
    have := h.leads b (hb.back hg (Nat.lt_of_lt_of_le hlb h.since) (by simp))
    exact ⟨Nat.lt_of_lt_of_le this.1 hg.size, this.2⟩
  off := fun g e hb => h.off g e (hb.back hg (Nat.lt_of_lt_of_le hlb h.since) (by simp))
theorem own_u64 {base : Nat} {A : World} {xs : List Nat} {g : Nat} (h : OwnW A base v xs) (hg : v.ownBlock = some g) : base ≤ g ∧ g < A.heap.size ∧ ∃ c fr, A.heap[g]? = some (.cells c 23 fr) := by
  obtain ⟨_, cur, hb⟩ := row_block h hg
  exact ⟨(World.ownsRow.lt h g hg).1, (World.ownsRow.lt h g hg).2, cur, _, hb⟩
theorem BhM.push {tmp : Obj} (h : BhM w W V wb kb lb T s o J v stk i) (hJ : Bears lb W.heap.size J) (hlb : lb < W.heap.size) (hw : w.heap.size ≤ W.heap.size) (hown : OwnW V' W.heap.size v' (stk ++ [x])) (hg : (V.alloc tmp).grownBy V' v.ownBlock) (hl : v'.ownBlock = v.ownBlock ∨ v'.ownBlock = some (V.heap.size + 1)) : BhM w W V' wb kb lb T s o J v' (stk ++ [x]) i := by
  have h1 := h.later hJ hlb (World.grownBy_alloc V tmp none)
  have hlb2 : lb < (V.alloc tmp).heap.size := Nat.lt_of_lt_of_le hlb h1.since
  have hne : v.ownBlock ≠ some lb := fun e => by have := (own_u64 h1.row e).1; omega
  have hkeep : ∀ (b : Nat) (c : Array Value) (t : TypeId) (fr : Nat × Nat), (V.alloc tmp).heap[b]? = some (Obj.cells c t fr) → t ≠ 23 → V'.heap[b]? = some (Obj.cells c t fr) := fun b c t fr hb ht => by
    refine (hg.block b (lt_of_block hb) fun e => ?_).trans hb
    obtain ⟨_, _, c', fr', h2⟩ := own_u64 h1.row e.symm
    rw [hb] at h2
    injection h2 with h2
    injection h2 with _ h2 _
    exact ht h2
  refine ⟨hJ _ _ _ _ h1.told hg (fun r e => ?_), h1.below.grown hg h1.below.size (fun k e => Nat.le_trans hw (own_u64 h1.row e).1), Nat.le_trans h1.since hg.size, hkeep _ _ _ _ h1.box (by decide), hkeep _ _ _ _ h1.key (by decide), hown, fun b hb => ?_, fun g e hb => ?_⟩
  · obtain ⟨a1, a2, a3⟩ := own_u64 h1.row e
    exact ⟨a1, a3, h1.off r e⟩
  · have := h1.leads b (hb.back hg hlb2 hne)
    exact ⟨Nat.lt_of_lt_of_le this.1 hg.size, this.2⟩
  · have hb' := hb.back hg hlb2 hne
    rcases hl with e2 | e2
    · exact h1.off g (e2 ▸ e) hb'
    · rw [e2] at e
      injection e with e
      have := (h.leads g (hb'.back (World.grownBy_alloc V tmp none) (Nat.lt_of_lt_of_le hlb h.since) (by simp))).1
      omega
theorem BhM.pop {a : Option Addr} {k c : Nat} (h : BhM w W V wb kb lb T s o J (.slice a (k + 1) c) (stk ++ [x]) i) (hk : stk.length = k) : BhM w W V wb kb lb T s o J (.slice a k c) stk i where
  told := h.told
  below := h.below
  since := h.since
  box := h.box
  key := h.key
  row := by
    obtain ⟨h1, h2 | ⟨g, cap, cur, hv, hb, hh, hn, hc, hs, ht⟩⟩ := h.row
    · have := h2.2; simp at this
    · injection hv with e1 e2 e3
      subst e1 e3
      refine ⟨by simp [cellsU, hk], .inr ⟨g, c, cur, by rw [hk], hb, hh, by simp at hn; omega, hc, hs, ?_⟩⟩
      have e4 : (stk ++ [x]).length * 1 = stk.length + 1 := by simp
      rw [e4] at ht
      have h9 := congrArg (List.take stk.length) ht
      rw [List.take_take, Nat.min_eq_left (by omega)] at h9
      rw [Nat.mul_one, h9]
      simp [cellsU]
  leads := h.leads
  off := fun g e => h.off g (by cases a with
    | none => simp [Value.ownBlock] at e
    | some b => exact e)
theorem BhM.tell (h : BhM w W V wb kb lb T s o J v stk i) (hwb : wb ≠ lb) (hkb : kb ≠ lb) (hlb : lb < W.heap.size) (hw : w.heap.size ≤ W.heap.size) (hJ : J (List.range i ++ [i]) V') (hk : TkKeep w.heap.size lb V V') : BhM w W V' wb kb lb T s o J v stk (i + 1) where
  told := by rw [List.range_succ]; exact hJ
  below := h.below.trans hk.below
  since := Nat.le_trans h.since hk.below.size
  box := (hk.frame wb ⟨_, _, _, h.box⟩ hwb (fun hr => (h.leads _ hr).2.1 rfl)).trans h.box
  key := (hk.frame kb ⟨_, _, _, h.key⟩ hkb (fun hr => (h.leads _ hr).2.2 rfl)).trans h.key
  row := by
    obtain ⟨h1, h2 | ⟨g, cap, cur, hv, hb, hh, hn, hc, hs, ht⟩⟩ := h.row
    · exact ⟨h1, .inl h2⟩
    · exact ⟨h1, .inr ⟨g, cap, cur, hv, hb, (hk.frame g ⟨_, _, _, hh⟩ (by omega) (h.off g (by rw [hv]; rfl))).trans hh, hn, hc, hs, ht⟩⟩
  leads := fun b hb => by
    rcases hk.row b hb with h1 | h1
    · have := h.leads b h1
      exact ⟨Nat.lt_of_lt_of_le this.1 hk.below.size, this.2⟩
    · have h2 := lt_of_block h.box
      have h3 := lt_of_block h.key
      exact ⟨h1.2, by omega, by omega⟩
  off := fun g e hb => by
    rcases hk.row g hb with h1 | h1
    · exact h.off g e h1
    · have := (own_u64 h.row e).2.1; omega
end
theorem wpListIn_append_num {F : Fence} {nF : Nat} {w2 : World} {ops : Array Oper} {rest : List Oper} {o : Oper} {a : Act} {Q : Exit → Act → World → Prop} (hgd : o.guard = none) (s x : Operand)
    (ho : o.op = .call { callee := .builtin .append, args := #[s, x], argTypes := #[27, 27] })
    (base : Nat) (v : Value) (xs : List Nat) (hs : a.eval s = v) (hown : OwnW w2 base v xs) (y : Nat)
    (hx : a.eval x = .slice (some ⟨w2.heap.size, 0, none⟩) 1 1) (hn : xs.length ≤ 10000000) (hbase : base ≤ w2.heap.size)
    (h : ∀ v' w', OwnW w' base v' (xs ++ [y]) → (w2.alloc (.cells #[.int .u64 (y : Nat)] 23)).grownBy w' v.ownBlock → (v'.ownBlock = v.ownBlock ∨ v'.ownBlock = some (w2.heap.size + 1)) → wpListIn F nF Tryz.prog ops Q rest (a.put o.dst v') w') :
    wpListIn F nF Tryz.prog ops Q (o :: rest) a (w2.alloc (.cells #[.int .u64 (y : Nat)] 23)) := by
  obtain ⟨i0, hi, hz0, hz1, hz2⟩ := info_parts info_u64
  refine wpListIn_append_own_at _ hgd s x 27 ho base 23 i0 (.int .u64 0) 1 8 Tryz.underlying27 hi hz0 hz1 hz2 rfl (by decide) v xs.length (cellsU xs) hs (World.ownsRow.alloc hown _) ⟨w2.heap.size, 0, none⟩ 1 1 [.int .u64 (y : Nat)] hx rfl (cell_one_new _ _ _) (by simp [Value.oneCell']) (by unfold maxLen; omega) (by omega) (by rw [World.size_alloc]; omega) fun v' w' h1 h2 _ h4 => h v' w' ?_ h2 (by rw [World.size_alloc] at h4; exact h4)
  unfold OwnW
  have e1 : cellsU (xs ++ [y]) = cellsU xs ++ [.int .u64 (y : Nat)] := by simp [cellsU]
  rw [e1, List.length_append]
  exact h1
theorem rkN_lt (x : Nat) : rkN x < 18446744073709551616 := by unfold rkN; rw [IntKind.wrap_u64]; omega
def BhR (w W : World) (wb kb lb T s o : Nat) (J : List Nat → World → Prop) (f z : Nat → Nat) (F Tl : List Nat) (v q : Value) (V : World) (k : Nat) : Prop :=
  ∃ n i stk, q = .int .u64 (n : Nat) ∧ BhM w W V wb kb lb T s o J v stk i ∧ WayAt f z F Tl s o n stk i ∧ i ≤ Tl.length ∧ k = (Tl.length - i) * 36893488147419103232 + rkN n
theorem bh_next {R R' : Nat → Prop} {k k' : Nat} (h : R' k') (hk : leastN R = k) (hlt : k' < k) : (∃ j, R' j) ∧ leastN R' < leastN R :=
  ⟨⟨k', h⟩, by rw [hk]; exact Nat.lt_of_le_of_lt (leastN_spec h).2 hlt⟩
section
variable {w : World} {T M : Nat} {R : Option Nat} {B D : Nat} {ws : List Nat} {l l' : List (Nat × Nat)} {z : Nat → Nat} {F S : List Nat}
theorem behind_any (T s o : Nat) (w : World) : Calls Tryz.prog 132 #[.agg #[.pointer (some ⟨T, 0, none⟩)], .agg #[.int .u64 (s : Nat), .int .u64 (o : Nat)]] w fun e w' => e = .returned (.func (.func 146) #[] #[.pointer (some ⟨w.heap.size, 0, none⟩), .pointer (some ⟨w.heap.size + 1, 0, none⟩)]) ∧ (w.alloc (.cells #[.pointer (some ⟨T, 0, none⟩)] 135)).alloc (.cells #[.int .u64 (s : Nat), .int .u64 (o : Nat)] 140) = w' := by
  go_enter Tryz.func132, Tryz.ntmps132
  go_wp2
  go_ret
  exact ⟨rfl, rfl⟩
set_option maxHeartbeats 8000000 in
theorem behind1_tells (h : Thinks w T M R B D ws l) (hB : Bed ws l z F) (hT : Tame z F S) (ht : TreeOf (txSee ws l) rkN (txSee ws l 32) S) (hlen : S.length ≤ 1000000) (s o wb kb lb : Nat) {w1 : World} (hB1 : Below w.heap.size w w1)
    (hwb : w1.heap[wb]? = some (.cells #[.pointer (some ⟨T, 0, none⟩)] 135 (0, 0))) (hkb : w1.heap[kb]? = some (.cells #[.int .u64 (s : Nat), .int .u64 (o : Nat)] 140 (0, 0))) (hlb : lb < w1.heap.size) (hnw : wb ≠ lb) (hnk : kb ≠ lb) (hl : ∀ b, RowAt lb w1 b → b < w1.heap.size ∧ b ≠ wb ∧ b ≠ kb) :
    TellsG 5 146 #[.pointer (some ⟨wb, 0, none⟩), .pointer (some ⟨kb, 0, none⟩)] (fun x => #[.int .u64 ((gtL z s o S).getD x 0 : Nat)]) (gtL z s o S).length lb w.heap.size w1 := by
  intro yl J Jx W hW hJ hJx hY h0
  show CallsIn Fence.wide 5 Tryz.prog 146 #[.func (.yield yl) #[] #[], .pointer (some ⟨wb, 0, none⟩), .pointer (some ⟨kb, 0, none⟩)] W _
  have hwg1 := below_grown hB1
  have hWg := below_grown hW
  have hBW : Below w.heap.size w W := hB1.grown hWg hB1.size (fun k e => by cases e)
  have hroot : ∀ V : World, w.grownBy V none → CallsIn Fence.wide 4 Tryz.prog 80 #[.pointer (some ⟨T, 0, none⟩)] V _ := fun V hg => (callsIn_wide (n := 4)).2 (hroot_any (h.later hg))
  have hkey := fun (V : World) (hg : w.grownBy V none) (n : Nat) (hn : n ∈ F) => tkey_any (h.later hg) n (by have := (hB.first hn).2; omega)
  have htwL := fun (V : World) (hg : w.grownBy V none) (n : Nat) (hn : n ∈ F) (hk : ltK s o (z n) n) => toward_left (h.later hg) n s o (by have := (hB.first hn).2; omega) (by rw [hB.keys n hn]; exact hk)
  have htwR := fun (V : World) (hg : w.grownBy V none) (n : Nat) (hn : n ∈ F) (hk : ¬ ltK s o (z n) n) => toward_right (h.later hg) n s o (hB.first hn).2 (by rw [hB.keys n hn]; exact hk)
  have hload := fun (V : World) (hg : w.grownBy V none) (q : Nat) (hq : q < 18446744073709551616) => txload_any (h.later hg) q hq
  have hloadI := fun (V : World) (hg : w.grownBy V none) (q : Nat) (hq : q < 18446744073709551616) => (callsIn_wide (n := 4)).2 (txload_any (h.later hg) q hq)
  have hway := way_start (s := s) (o := o) ht hT.rise hT.sub
  have hF64 : ∀ n, n ∈ F → n + 16 < 18446744073709551616 := fun n hn => (hB.first hn).2
  have hkeys := hB.keys
  have hTl : (gtL z s o S).length ≤ 1000000 := Nat.le_trans (List.length_filter_le _ _) hlen
  obtain ⟨Tl, eTl⟩ : ∃ Tl, gtL z s o S = Tl := ⟨_, rfl⟩
  rw [eTl] at hway hY hTl ⊢
  obtain ⟨f, ef⟩ : ∃ f, txSee ws l = f := ⟨_, rfl⟩
  rw [ef] at hway hload hloadI hroot hkey hkeys
  obtain ⟨r0, hr0⟩ : ∃ r0, f 32 = r0 := ⟨_, rfl⟩
  rw [hr0] at hroot hway
  have HM0 : BhM w W W wb kb lb T s o J (.slice none 0 0) [] 0 := ⟨h0, hBW, Nat.le_refl _, two_held1 hwb hWg, two_held hkb hWg, World.ownsRow_nil _ _ _ _, fun b hb => by
    have := hl b (hb.back hWg hlb (by simp))
    exact ⟨Nat.lt_of_lt_of_le this.1 hWg.size, this.2⟩, fun g e => by simp [Value.ownBlock] at e⟩
  have hlbW : lb < W.heap.size := Nat.lt_of_lt_of_le hlb hWg.size
  have hwW := Nat.le_trans hwg1.size hWg.size
  have HJ := Lib.hid hJ
  have HY := Lib.hid hY
  have HW0 := Lib.hid hway
  have HM := Lib.hid HM0
  have HKEY := Lib.hid hkey
  have HTL := Lib.hid htwL
  have HTR := Lib.hid htwR
  have HLD := Lib.hid hload
  have HLI := Lib.hid hloadI
  have HKS := Lib.hid hkeys
  have H64 := Lib.hid hF64
  have hrt := hroot W (grown_trans hwg1 hWg)
  have c0 := cell_of_one HM0.box
  obtain ⟨c1, c2⟩ := two_cells HM0.key
  clear hl hwb hkb hroot hkey htwL htwR hload hloadI hway hF64 hkeys h hB ht hT hY h0 HM0 hJ hJx ef eTl hr0
  refine callsIn_of_wp Tryz.func146 rfl trivial ?_ rfl
  simp only [Tryz.ntmps146, List.size_toArray, List.length_cons, List.length_nil, Nat.reduceAdd, Nat.reduceSub, Array.replicate_succ, Array.replicate_zero, List.push_toArray, List.append_toArray, List.nil_append, List.cons_append]
  gi_wp2_with (refine ⟨trivial, ?_⟩; gi_at_call 80; (with_reducible refine hrt.mono ?_); rintro e w2 ⟨rfl, hg2⟩)
  gi_loopw [4, 5] (fun v q wr => ∃ k, BhR w W wb kb lb T s o J f z F Tl v q wr k) (fun v q wr => leastN (BhR w W wb kb lb T s o J f z F Tl v q wr))
  case atStart => exact ⟨_, r0, 0, [], rfl, HM.out.later HJ.out hlbW hg2, HW0.out, Nat.zero_le _, rfl⟩
  case round =>
    obtain ⟨k0, hk0⟩ := hrel
    obtain ⟨⟨n, i, stk, rfl, hM, hW, hi, hk⟩, _⟩ := leastN_spec hk0
    obtain ⟨sa, sc, hv, hat⟩ := hM.row.lie
    subst hv
    have HK := Lib.hid hk
    have HMM := Lib.hid hM
    have HWW := Lib.hid hW
    have hgV : w.grownBy wr none := below_grown hM.below
    have c0 := cell_of_one hM.box
    obtain ⟨c1, c2⟩ := two_cells hM.key
    have hsh := hW.short
    clear hk hk0 hrt hg2
    by_cases h0 : n = 0
    · subst h0
      rcases List.eq_nil_or_concat stk with rfl | ⟨stk', x, hst⟩
      · have hdone := hW.done hi
        have HD := Lib.hid hdone
        clear hM hW hat hdone
        gi_wp2
        go_end0
        exact ⟨⟨_, rfl⟩, .inl ⟨_, rfl, by rw [← HD.out]; exact HMM.out.told⟩⟩
      · rw [List.concat_eq_append] at hst
        subst hst
        obtain ⟨t1, t2, t3, t4⟩ := hW.tell
        obtain ⟨bl, off, rfl, hbl, hcs⟩ := hat.cells (by simp)
        have c9 := hcs stk'.length (by simp)
        rw [show (stk' ++ [x]).getD stk'.length 0 = x by simp] at c9
        obtain ⟨k, ek⟩ : ∃ k, stk'.length = k := ⟨_, rfl⟩
        have el : (stk' ++ [x]).length = k + 1 := by simp [ek]
        rw [ek] at c9
        rw [el] at hsh
        simp only [el] at HMM HK ⊢
        have hcap : (k : Int) ≤ (sc : Int) := by
          rcases hM.row.2 with h9 | ⟨_, _, _, h9, _, _, h10, _⟩
          · have := h9.2; simp at this
          · injection h9 with _ _ h9
            rw [el] at h10
            omega
        have hxF := t3
        have hx64 := H64.out x t3
        have e16 : IntKind.u64.wrap ((x : Int) + 16) = (x + 16 : Nat) := by rw [IntKind.wrap_u64]; omega
        obtain ⟨x16, ex16⟩ : ∃ q, x + 16 = q := ⟨_, rfl⟩
        rw [ex16] at e16
        obtain ⟨y, hy⟩ : ∃ y, f x16 = y := ⟨_, rfl⟩
        have HW2 := Lib.hid (show WayAt f z F Tl s o y stk' (i + 1) from by rw [← hy, ← ex16]; exact t4)
        have HPOP := Lib.hid (HMM.out.pop ek)
        have hyld := HY.out (List.range i) i wr HMM.out.told (by simpa using t1)
        rw [t2] at hyld
        obtain ⟨fn, tmps, assign, body, hyy, hR⟩ := hyld
        have HY64 := Lib.hid (rkN_lt y)
        have hx64' : x16 < 18446744073709551616 := by omega
        clear hM hW hat hcs t2 t3 t4 el ex16
        gi_wp2
        refine hR.mono ?_
        rintro e W3 (⟨rfl, hJ4, hk4⟩ | ⟨rfl, hJx4⟩)
        · have HM3 := Lib.hid (HPOP.out.tell hnw hnk hlbW hwW hJ4 hk4)
          have hgV3 : w.grownBy W3 none := below_grown HM3.out.below
          have d0 := cell_of_one HM3.out.box
          have hli := HLI.out W3 hgV3 x16 hx64'
          rw [hy] at hli
          clear hyy hR hJ4 hk4 c0 c1 c2 c9
          gi_wp2_with (refine ⟨trivial, ?_⟩; gi_at_call 17; (with_reducible refine hli.mono ?_); rintro e w5 ⟨rfl, hg5⟩)
          refine bh_next ⟨y, i + 1, stk', rfl, HM3.out.later HJ.out hlbW hg5, HW2.out, by omega, rfl⟩ HK.out ?_
          have := HY64.out
          omega
        · gi_wp2
          refine bodyPost_ret (results_none rfl _ _ _) rfl ?_
          exact ⟨⟨_, rfl⟩, .inr ⟨_, ⟨i + 1, t1, by rw [List.range_succ]⟩, hJx4⟩⟩
    · have hn0 : ¬ (n : Int) = 0 := by omega
      have hb0 : ((n : Int) != 0) = true := by simpa using h0
      have hnF := hW.mem h0
      clear hM hW hat
      by_cases hgt : ltK s o (z n) n
      · skip
        have hky := fun (V : World) (hg : w.grownBy V none) => HKEY.out V hg n hnF
        rw [HKS.out n hnF] at hky
        have hcmp := fun w => tcompare_grown s o (z n) n w
        rw [cmpK_lt hgt] at hcmp
        obtain ⟨n8, e8⟩ : ∃ q, n + 8 = q := ⟨_, rfl⟩
        have htw := fun (V : World) (hg : w.grownBy V none) => HTL.out V hg n hnF hgt
        rw [e8] at htw
        have hld := fun (V : World) (hg : w.grownBy V none) => HLD.out V hg n8 (by have := H64.out n hnF; omega)
        obtain ⟨y, hy⟩ : ∃ y, f n8 = y := ⟨_, rfl⟩
        rw [hy] at hld
        have HW2 := Lib.hid (show WayAt f z F Tl s o y (stk ++ [n]) i from by rw [← hy, ← e8]; exact HWW.out.aside h0 hgt)
        have HRK := Lib.hid (show rkN y < rkN n from rank_son (by rw [← hy, ← e8]; exact (HWW.out.sons h0).1) (rank_pos h0 (by have := H64.out n hnF; omega)))
        clear hy e8 h0
        gi_wp2
        refine wpIn_wide.2 ?_
        have HG : wr.grownBy wr.drew none := grown_drew (grown_refl _ _)
        have hcell : ∀ {wq : World}, wr.grownBy wq none → wq.cell? ⟨wb, 0, none⟩ = some (.pointer (some ⟨T, 0, none⟩)) ∧ wq.cell? ⟨kb, 0, none⟩ = some (.int .u64 (s : Nat)) ∧ wq.cell? ⟨kb, 1, none⟩ = some (.int .u64 (o : Nat)) := fun {wq} hg => ⟨cell_of_one (two_held1 HMM.out.box hg), two_cells (two_held HMM.out.key hg)⟩
        obtain ⟨d0, d1, d2⟩ := hcell HG
        clear c0 c1 c2
        go_region_held3 (fun wq => wq.cell? ⟨wb, 0, none⟩ = some (.pointer (some ⟨T, 0, none⟩)) ∧ wq.cell? ⟨kb, 0, none⟩ = some (.int .u64 (s : Nat)) ∧ wq.cell? ⟨kb, 1, none⟩ = some (.int .u64 (o : Nat))) (exact hcell HG) (first | (go_at_call 101; (with_reducible refine (hky _ (grown_trans hgV HG)).mono ?_); rintro e w9 ⟨rfl, hg9⟩; replace HG := grown_trans HG hg9; obtain ⟨d0, d1, d2⟩ := hcell HG) | (go_at_call 127; (with_reducible refine (hcmp _).mono ?_); rintro e w9 ⟨rfl, hg9⟩; replace HG := grown_trans HG hg9; obtain ⟨d0, d1, d2⟩ := hcell HG))
        have HM9 := Lib.hid (HMM.out.later HJ.out hlbW HG)
        obtain ⟨V9, eV9⟩ : ∃ V9 : World, V9 = w9 := ⟨_, rfl⟩
        subst eV9
        gi_wp2_with (gi_at_builtin; go_must (refine wpListIn_append_num rfl _ _ rfl W.heap.size (.slice sa stk.length sc) stk rfl HM9.out.row n rfl (by omega) HM9.out.since ?_); intro v' w5 hown5 hg5 hloc5)
        have HM5 := Lib.hid (HM9.out.push (x := n) HJ.out hlbW hwW hown5 hg5 hloc5)
        have hgV5 : w.grownBy w5 none := below_grown HM5.out.below
        refine wpIn_wide.2 ?_
        have HG5 : w5.grownBy w5.drew none := grown_drew (grown_refl _ _)
        have hcell5 : ∀ {wq : World}, w5.grownBy wq none → wq.cell? ⟨wb, 0, none⟩ = some (.pointer (some ⟨T, 0, none⟩)) ∧ wq.cell? ⟨kb, 0, none⟩ = some (.int .u64 (s : Nat)) ∧ wq.cell? ⟨kb, 1, none⟩ = some (.int .u64 (o : Nat)) := fun {wq} hg => ⟨cell_of_one (two_held1 HM5.out.box hg), two_cells (two_held HM5.out.key hg)⟩
        clear hcell d0 d1 d2
        obtain ⟨d0, d1, d2⟩ := hcell5 HG5
        go_region_held3 (fun wq => wq.cell? ⟨wb, 0, none⟩ = some (.pointer (some ⟨T, 0, none⟩)) ∧ wq.cell? ⟨kb, 0, none⟩ = some (.int .u64 (s : Nat)) ∧ wq.cell? ⟨kb, 1, none⟩ = some (.int .u64 (o : Nat))) (exact hcell5 HG5) (first | (go_at_call 133; (with_reducible refine (htw _ (grown_trans hgV5 HG5)).mono ?_); rintro e w9 ⟨rfl, hg9⟩; replace HG5 := grown_trans HG5 hg9; obtain ⟨d0, d1, d2⟩ := hcell5 HG5) | (go_at_call 17; (with_reducible refine (hld _ (grown_trans hgV5 HG5)).mono ?_); rintro e w9 ⟨rfl, hg9⟩; replace HG5 := grown_trans HG5 hg9; obtain ⟨d0, d1, d2⟩ := hcell5 HG5))
        gi_wp2
        exact bh_next ⟨y, i, _, rfl, HM5.out.later HJ.out hlbW HG5, HW2.out, hi, rfl⟩ HK.out (by have := HRK.out; omega)
      · skip
        have hky := fun (V : World) (hg : w.grownBy V none) => HKEY.out V hg n hnF
        rw [HKS.out n hnF] at hky
        have hcmp := fun w => tcompare_grown s o (z n) n w
        obtain ⟨cc, ecc⟩ : ∃ cc, cmpK s o (z n) n = cc := ⟨_, rfl⟩
        have hcc : ¬ cc < 0 := by rcases cmpK_ge hgt with e | e <;> omega
        rw [ecc] at hcmp
        obtain ⟨n8, e8⟩ : ∃ q, n + 16 = q := ⟨_, rfl⟩
        have htw := fun (V : World) (hg : w.grownBy V none) => HTR.out V hg n hnF hgt
        rw [e8] at htw
        have hld := fun (V : World) (hg : w.grownBy V none) => HLD.out V hg n8 (by have := H64.out n hnF; omega)
        obtain ⟨y, hy⟩ : ∃ y, f n8 = y := ⟨_, rfl⟩
        rw [hy] at hld
        have HW2 := Lib.hid (show WayAt f z F Tl s o y stk i from by rw [← hy, ← e8]; exact HWW.out.pass h0 hgt)
        have HRK := Lib.hid (show rkN y < rkN n from rank_son (by rw [← hy, ← e8]; exact (HWW.out.sons h0).2) (rank_pos h0 (by have := H64.out n hnF; omega)))
        clear hy e8 h0 ecc
        gi_wp2
        refine wpIn_wide.2 ?_
        have HG : wr.grownBy wr.drew none := grown_drew (grown_refl _ _)
        have hcell : ∀ {wq : World}, wr.grownBy wq none → wq.cell? ⟨wb, 0, none⟩ = some (.pointer (some ⟨T, 0, none⟩)) ∧ wq.cell? ⟨kb, 0, none⟩ = some (.int .u64 (s : Nat)) ∧ wq.cell? ⟨kb, 1, none⟩ = some (.int .u64 (o : Nat)) := fun {wq} hg => ⟨cell_of_one (two_held1 HMM.out.box hg), two_cells (two_held HMM.out.key hg)⟩
        obtain ⟨d0, d1, d2⟩ := hcell HG
        clear c0 c1 c2
        go_region_held3 (fun wq => wq.cell? ⟨wb, 0, none⟩ = some (.pointer (some ⟨T, 0, none⟩)) ∧ wq.cell? ⟨kb, 0, none⟩ = some (.int .u64 (s : Nat)) ∧ wq.cell? ⟨kb, 1, none⟩ = some (.int .u64 (o : Nat))) (exact hcell HG) (first | (go_at_call 101; (with_reducible refine (hky _ (grown_trans hgV HG)).mono ?_); rintro e w9 ⟨rfl, hg9⟩; replace HG := grown_trans HG hg9; obtain ⟨d0, d1, d2⟩ := hcell HG) | (go_at_call 127; (with_reducible refine (hcmp _).mono ?_); rintro e w9 ⟨rfl, hg9⟩; replace HG := grown_trans HG hg9; obtain ⟨d0, d1, d2⟩ := hcell HG))
        gi_wp2
        have HM5 := Lib.hid (HMM.out.later HJ.out hlbW HG)
        obtain ⟨w5, ew5⟩ : ∃ w5 : World, w5 = w9 := ⟨_, rfl⟩
        subst ew5
        have hgV5 : w.grownBy w5 none := below_grown HM5.out.below
        refine wpIn_wide.2 ?_
        have HG5 : w5.grownBy w5.drew none := grown_drew (grown_refl _ _)
        have hcell5 : ∀ {wq : World}, w5.grownBy wq none → wq.cell? ⟨wb, 0, none⟩ = some (.pointer (some ⟨T, 0, none⟩)) ∧ wq.cell? ⟨kb, 0, none⟩ = some (.int .u64 (s : Nat)) ∧ wq.cell? ⟨kb, 1, none⟩ = some (.int .u64 (o : Nat)) := fun {wq} hg => ⟨cell_of_one (two_held1 HM5.out.box hg), two_cells (two_held HM5.out.key hg)⟩
        clear hcell d0 d1 d2
        obtain ⟨d0, d1, d2⟩ := hcell5 HG5
        go_region_held3 (fun wq => wq.cell? ⟨wb, 0, none⟩ = some (.pointer (some ⟨T, 0, none⟩)) ∧ wq.cell? ⟨kb, 0, none⟩ = some (.int .u64 (s : Nat)) ∧ wq.cell? ⟨kb, 1, none⟩ = some (.int .u64 (o : Nat))) (exact hcell5 HG5) (first | (go_at_call 133; (with_reducible refine (htw _ (grown_trans hgV5 HG5)).mono ?_); rintro e w9 ⟨rfl, hg9⟩; replace HG5 := grown_trans HG5 hg9; obtain ⟨d0, d1, d2⟩ := hcell5 HG5) | (go_at_call 17; (with_reducible refine (hld _ (grown_trans hgV5 HG5)).mono ?_); rintro e w9 ⟨rfl, hg9⟩; replace HG5 := grown_trans HG5 hg9; obtain ⟨d0, d1, d2⟩ := hcell5 HG5))
        gi_wp2
        exact bh_next ⟨y, i, _, rfl, HM5.out.later HJ.out hlbW HG5, HW2.out, hi, rfl⟩ HK.out (by have := HRK.out; omega)
end
end Go.Proofs.YtcbdbflgfhbikaaGreat
