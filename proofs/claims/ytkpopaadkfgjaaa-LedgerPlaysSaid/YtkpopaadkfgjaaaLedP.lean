/-
  Lists of all clients, in memory: what stands at the head of 'played', and what each step makes of it.
  No condition.
-/
import Derived.Test.YtkpopaadkfgjaaaLedG
import Derived.Test.YtkpopaadkfgjaaaStepO
namespace Go.Proofs.Ytkpopaadkfgjaaa
open Go.RowKit
set_option linter.unusedVariables false
set_option linter.unusedSimpArgs false
set_option maxRecDepth 100000

/-! ### the lists, as the document has them -/
/-- is a block in one of the first ones? -/
def anyL (L : Nat → List Nat) (off : Nat) : Nat → Bool
  | 0 => false
  | k + 1 => anyL L off k || decide (off ∈ L k)
theorem anyL_no {L : Nat → List Nat} {off : Nat} : ∀ {k : Nat}, anyL L off k = false → ∀ d, d < k → off ∉ L d
  | 0, _, d, hd => by omega
  | k + 1, h, d, hd => by
    unfold anyL at h
    rw [Bool.or_eq_false_iff] at h
    rcases Nat.lt_succ_iff_lt_or_eq.1 hd with h1 | rfl
    · exact anyL_no h.1 d h1
    · exact of_decide_eq_false h.2
/-- one step -/
def playS (U : List Nat) (L : Nat → List Nat) (a b : Nat) : Nat → List Nat :=
  if U.getD (b % U.length) 0 ∈ L (a % 8) then setL L (a % 8) ((L (a % 8)).filter fun y => decide (y ≠ U.getD (b % U.length) 0))
  else if anyL L (U.getD (b % U.length) 0) 8 = true then L else setL L (a % 8) (U.getD (b % U.length) 0 :: L (a % 8))
def playL (U : List Nat) (A B : Nat → Nat) : Nat → Nat → List Nat
  | 0 => fun _ => []
  | k + 1 => playS U (playL U A B k) (A k) (B k)
/-! ### eight lists in a box -/
/-- the box's cells -/
def box8 (vs : Nat → Value) : Array Value := ((List.range 8).map vs).toArray
theorem box8_get (vs : Nat → Value) {c : Nat} (hc : c < 8) : (box8 vs)[c]? = some (vs c) := by
  unfold box8
  rw [List.getElem?_toArray, List.getElem?_map, List.getElem?_range hc]
  rfl
theorem box8_set (vs : Nat → Value) {c : Nat} (v : Value) (hc : c < 8) : (box8 vs).set! c v = box8 (fun d => if d = c then v else vs d) := by
  unfold box8
  rcases (show c = 0 ∨ c = 1 ∨ c = 2 ∨ c = 3 ∨ c = 4 ∨ c = 5 ∨ c = 6 ∨ c = 7 by omega) with rfl | rfl | rfl | rfl | rfl | rfl | rfl | rfl <;> rfl
/-- The Tx has L', the box's rows have L. -/
structure PyS (w0 w : World) (T : Nat) (R0 : Option Nat) (U : List Nat) (tg : Nat → Nat) (ob : Nat) (L L' : Nat → List Nat) (wr : World) : Prop where
  is : ∃ R vs, LW w0 wr T R U tg L' ∧ Keep w R0 wr R ∧ (∀ c, c < 8 → KW wr R w.heap.size (vs c) (L c)) ∧ wr.heap[ob]? = some (.cells (box8 vs) 38 (0, 0))
/-- .. and there is one row more. -/
structure PyV (w0 w : World) (T : Nat) (R0 : Option Nat) (U : List Nat) (tg : Nat → Nat) (ob : Nat) (L L' : Nat → List Nat) (v : Value) (xs : List Nat) (wr : World) : Prop where
  is : ∃ R vs, LW w0 wr T R U tg L' ∧ Keep w R0 wr R ∧ (∀ c, c < 8 → KW wr R w.heap.size (vs c) (L c)) ∧ wr.heap[ob]? = some (.cells (box8 vs) 38 (0, 0)) ∧ KW wr R w.heap.size v xs
section
variable {w0 w wr w' : World} {T ob c off base : Nat} {R0 : Option Nat} {U xs : List Nat} {tg : Nat → Nat} {L L' : Nat → List Nat} {v : Value} {a : Option Addr} {n cp : Nat}
theorem PyS.later (h : PyS w0 w T R0 U tg ob L L' wr) (hg : wr.grownBy w' none) : PyS w0 w T R0 U tg ob L L' w' := by
  obtain ⟨R, vs, h1, h2, h3, h4⟩ := h.is
  exact ⟨R, vs, h1.later hg, h2.trans (Keep.of_grown hg), fun c hc => (h3 c hc).later hg, (hg.block _ (lt_of_block h4) (by simp)).trans h4⟩
theorem PyS.since (h : PyS w0 w T R0 U tg ob L L' wr) : w0.grownBy wr none := by
  obtain ⟨R, vs, h1, h2, h3, h4⟩ := h.is
  exact h1.since
theorem PyS.cell (h : PyS w0 w T R0 U tg ob L L' wr) (hc : c < 8) : ∃ a cp, wr.cell? ⟨ob, c, none⟩ = some (.slice a (L c).length cp) ∧ wr.frozen? ⟨ob, c, none⟩ = false ∧ WordsAt wr a (L c) := by
  obtain ⟨R, vs, h1, h2, h3, h4⟩ := h.is
  obtain ⟨a, cp, e, hw⟩ := (h3 c hc).1.lie
  refine ⟨a, cp, ?_, ?_, hw⟩
  · rw [← e]
    unfold World.cell?
    simp only [h4]
    rw [← box8_get vs hc]
    rfl
  · unfold World.frozen?
    simp only [h4]
    simp
theorem PyS.all (h : PyS w0 w T R0 U tg ob L L' wr) (ka : KW w R0 base (.slice a n cp) U) : WordsAt wr a U := by
  obtain ⟨R, vs, h1, h2, h3, h4⟩ := h.is
  obtain ⟨a', c', e, h'⟩ := (h2.row ka).1.lie
  cases e
  exact h'
theorem PyS.ledg (h : PyS w0 w T R0 U tg ob L L' wr) : ∃ f, Ledg U f L' := by
  obtain ⟨R, vs, ⟨M, B, D, l, h1, h2, h3⟩, _⟩ := h.is
  exact ⟨_, h2⟩
theorem PyS.link (h : PyS w0 w T R0 U tg ob L L wr) (hU : Grid U) (hc : c < 8) (ho : off ∈ U) (hn : ∀ d, d < 8 → off ∉ L d) :
    Calls Try.prog 17 #[.pointer (some ⟨T, 0, none⟩), .int .i64 c, .int .u64 off] wr fun e w' => e = .returned (.tuple #[]) ∧ PyS w0 w T R0 U tg ob L (setL L c (off :: L c)) w' := by
  obtain ⟨R, vs, h1, h2, h3, h4⟩ := h.is
  refine (lw_link h1 hU hc ho hn).mono ?_
  rintro e w' ⟨rfl, R', k1, k2⟩
  exact ⟨rfl, ⟨R', vs, k1, h2.trans k2, fun c hc => k2.row (h3 c hc), k2.far h4 (by decide) (by decide)⟩⟩
theorem PyS.unlink (h : PyS w0 w T R0 U tg ob L L wr) (hU : Grid U) (hc : c < 8) (ho : off ∈ L c) :
    Calls Try.prog 19 #[.pointer (some ⟨T, 0, none⟩), .int .i64 c, .int .u64 off] wr fun e w' => e = .returned (.tuple #[]) ∧ PyS w0 w T R0 U tg ob L (setL L c ((L c).filter fun y => decide (y ≠ off))) w' := by
  obtain ⟨R, vs, h1, h2, h3, h4⟩ := h.is
  refine (lw_unlink h1 hU hc ho).mono ?_
  rintro e w' ⟨rfl, R', k1, k2⟩
  exact ⟨rfl, ⟨R', vs, k1, h2.trans k2, fun c hc => k2.row (h3 c hc), k2.far h4 (by decide) (by decide)⟩⟩
theorem PyS.check (h : PyS w0 w T R0 U tg ob L L wr) (hU : Grid U) (hc : c < 8) (hw : WordsAt wr a (L c)) (hm : (L c).length = n) :
    Calls Try.prog 10 #[.pointer (some ⟨T, 0, none⟩), .int .i64 c, .slice a n cp] wr fun e w' => e = .returned (.bool true) ∧ wr.grownBy w' none := by
  obtain ⟨R, vs, h1, h2, h3, h4⟩ := h.is
  exact lw_check h1 hU hc hw hm
theorem PyS.made (h : PyS w0 w T R0 U tg ob L L' wr) (hg : wr.grownBy w' none) (ho : OwnW w' wr.heap.size v xs) : PyV w0 w T R0 U tg ob L L' v xs w' := by
  obtain ⟨R, vs, h1, h2, h3, h4⟩ := (h.later hg).is
  obtain ⟨R1, vs1, k1, k2, k3, k4⟩ := h.is
  have hw : w.heap.size ≤ wr.heap.size := k2.size
  obtain ⟨M, B, D, l, t1, t2, t3⟩ := k1
  refine ⟨R1, vs1, LW.later ⟨M, B, D, l, t1, t2, t3⟩ hg, k2.trans (Keep.of_grown hg), fun c hc => (k3 c hc).later hg, (hg.block _ (lt_of_block k4) (by simp)).trans k4, ho.mono hw, fun g hg2 e => ?_⟩
  have h5 := t1.tx.ltR e
  have h6 := (World.ownsRow.lt ho g hg2).1
  omega
theorem PyV.put (h : PyV w0 w T R0 U tg ob L L' v xs wr) (hw : w.heap.size ≤ ob) (hw0 : w0.heap.size ≤ ob) (hc : c < 8) (hL : L' = setL L c xs) : PyS w0 w T R0 U tg ob L' L' (wr.setCell ⟨ob, c, none⟩ v) := by
  obtain ⟨R, vs, h1, h2, h3, h4, h5⟩ := h.is
  have hs : wr.grownBy (wr.setCell ⟨ob, c, none⟩ v) (some ob) := grown_set _ _ _ _
  have hrow : ∀ (b : Nat) (u : Value) (ys : List Nat), OwnW wr b u ys → OwnW (wr.setCell ⟨ob, c, none⟩ v) b u ys := fun b u ys ho => World.ownsRow.kept ho hs (by
    by_cases e : u.ownBlock = none
    · exact .inl e
    · refine .inr fun e2 => ?_
      obtain ⟨_, cur, hb⟩ := row_block ho e2
      rw [h4] at hb
      injection hb with hb
      injection hb with _ hb _
      exact absurd hb (by decide))
  have hput : ∀ (b : Nat) (u : Value) (ys : List (Nat × Nat)), OwnP wr b u ys → OwnP (wr.setCell ⟨ob, c, none⟩ v) b u ys := fun b u ys ho => World.ownsRow.kept ho hs (by
    by_cases e : u.ownBlock = none
    · exact .inl e
    · refine .inr fun e2 => ?_
      obtain ⟨_, cur, hb⟩ := row_block ho e2
      rw [h4] at hb
      injection hb with hb
      injection hb with _ hb _
      exact absurd hb (by decide))
  refine ⟨R, fun d => if d = c then v else vs d, ?_, ⟨Nat.le_trans h2.size hs.size, fun a => ⟨hrow _ _ _ (h2.row a).1, (h2.row a).2⟩, fun a => hput _ _ _ (h2.puts a), fun {b c t} q1 q2 q3 => ?_⟩, fun d hd => ?_, ?_⟩
  · obtain ⟨M, B, D, l, t1, t2, t3⟩ := h1
    refine ⟨M, B, D, l, ⟨t1.tx.turned (Turned.of_grown hs) (fun k hk => ?_), grown_step t1.since hs (fun i hi => .inl (by injection hi with hi; omega)), t1.newT, t1.newM, t1.newR, t1.newB, t1.newD⟩, t2, t3⟩
    injection hk with hk
    subst hk
    exact ⟨t1.tx.far h4 (by decide) (by decide), fun e => ne_type h4 t1.tx.seg.head (by decide) e, fun e => ne_type h4 t1.tx.seg.data (by decide) e⟩
  · refine (hs.block b (lt_of_block (h2.far q1 q2 q3)) fun e => ?_).trans (h2.far q1 q2 q3)
    injection e with e
    have := lt_of_block q1
    omega
  · subst hL
    by_cases e : d = c
    · subst e
      rw [setL_same]
      show KW _ _ _ (if d = d then v else vs d) _
      rw [if_pos rfl]
      exact ⟨hrow _ _ _ h5.1, h5.2⟩
    · rw [setL_other _ e]
      show KW _ _ _ (if d = c then v else vs d) _
      rw [if_neg e]
      exact ⟨hrow _ _ _ (h3 d hd).1, (h3 d hd).2⟩
  · rw [heap_setCell_same h4 v]
    exact congrArg (fun x => some (Obj.cells x 38 (0, 0))) (box8_set vs v hc)
theorem PyV.lie (h : PyV w0 w T R0 U tg ob L L' v xs wr) : ∃ a cp, v = .slice a xs.length cp := by
  obtain ⟨R, vs, h1, h2, h3, h4, h5⟩ := h.is
  obtain ⟨a, cp, e, _⟩ := h5.1.lie
  exact ⟨a, cp, e⟩
theorem PyV.put_lie (h : PyV w0 w T R0 U tg ob L L' (.slice a n cp) xs wr) : WordsAt (wr.setCell ⟨ob, c, none⟩ (.slice a n cp)) a xs := by
  obtain ⟨R, vs, h1, h2, h3, h4, h5⟩ := h.is
  have hs : wr.grownBy (wr.setCell ⟨ob, c, none⟩ (.slice a n cp)) (some ob) := grown_set _ _ _ _
  have ho : OwnW (wr.setCell ⟨ob, c, none⟩ (.slice a n cp)) w.heap.size (.slice a n cp) xs := World.ownsRow.kept h5.1 hs (by
    by_cases e : (Value.slice a n cp).ownBlock = none
    · exact .inl e
    · refine .inr fun e2 => ?_
      obtain ⟨_, cur, hb⟩ := row_block h5.1 e2
      rw [h4] at hb
      injection hb with hb
      injection hb with _ hb _
      exact absurd hb (by decide))
  obtain ⟨a', c', e, h'⟩ := ho.lie
  cases e
  exact h'
/-- a box of eight lists is turned -/
theorem turn8_lw {b : Nat} {cs : Array Value} {R : Option Nat} (hb : wr.heap[b]? = some (.cells cs 38 (0, 0))) (hs : wr.grownBy w' (some b)) (hw0 : w0.heap.size ≤ b) (h1 : LW w0 wr T R U tg L) : LW w0 w' T R U tg L := by
  obtain ⟨M, B, D, l, t1, t2, t3⟩ := h1
  refine ⟨M, B, D, l, ⟨t1.tx.turned (Turned.of_grown hs) (fun k hk => ?_), grown_step t1.since hs (fun i hi => .inl (by injection hi with hi; omega)), t1.newT, t1.newM, t1.newR, t1.newB, t1.newD⟩, t2, t3⟩
  injection hk with hk
  subst hk
  exact ⟨t1.tx.far hb (by decide) (by decide), fun e => ne_type hb t1.tx.seg.head (by decide) e, fun e => ne_type hb t1.tx.seg.data (by decide) e⟩
theorem turn8_kw {b : Nat} {cs : Array Value} {R : Option Nat} (hb : wr.heap[b]? = some (.cells cs 38 (0, 0))) (hs : wr.grownBy w' (some b)) (h1 : KW wr R base v xs) : KW w' R base v xs :=
  ⟨World.ownsRow.kept h1.1 hs (by
    by_cases e : v.ownBlock = none
    · exact .inl e
    · refine .inr fun e2 => ?_
      obtain ⟨_, cur, hb2⟩ := row_block h1.1 e2
      rw [hb] at hb2
      injection hb2 with hb2
      injection hb2 with _ hb2 _
      exact absurd hb2 (by decide)), h1.2⟩
theorem turn8_keep {b : Nat} {cs : Array Value} {R : Option Nat} (hb : wr.heap[b]? = some (.cells cs 38 (0, 0))) (hs : wr.grownBy w' (some b)) (hw : w.heap.size ≤ b) (h2 : Keep w R0 wr R) : Keep w R0 w' R :=
  ⟨Nat.le_trans h2.size hs.size, fun a => turn8_kw hb hs (h2.row a), fun {base v xs} a => World.ownsRow.kept (h2.puts a) hs (by
    by_cases e : v.ownBlock = none
    · exact .inl e
    · refine .inr fun e2 => ?_
      obtain ⟨_, cur, hb2⟩ := row_block (h2.puts a) e2
      rw [hb] at hb2
      injection hb2 with hb2
      injection hb2 with _ hb2 _
      exact absurd hb2 (by decide)), fun {b c t} q1 q2 q3 => by
    refine (hs.block b (lt_of_block (h2.far q1 q2 q3)) fun e => ?_).trans (h2.far q1 q2 q3)
    injection e with e
    have := lt_of_block q1
    omega⟩
end
theorem sets8 {w : World} {b : Nat} {x0 x1 x2 x3 x4 x5 x6 x7 : Value} {t : TypeId} (h : w.heap[b]? = some (.cells #[x0, x1, x2, x3, x4, x5, x6, x7] t (0, 0))) (v0 v1 v2 v3 v4 v5 v6 v7 : Value) : (((((((((w.setCell ⟨b, 0, none⟩ v0).setCell ⟨b, 1, none⟩ v1).setCell ⟨b, 2, none⟩ v2).setCell ⟨b, 3, none⟩ v3).setCell ⟨b, 4, none⟩ v4).setCell ⟨b, 5, none⟩ v5).setCell ⟨b, 6, none⟩ v6).setCell ⟨b, 7, none⟩ v7)).heap[b]? = some (.cells #[v0, v1, v2, v3, v4, v5, v6, v7] t (0, 0)) ∧ w.grownBy ((((((((w.setCell ⟨b, 0, none⟩ v0).setCell ⟨b, 1, none⟩ v1).setCell ⟨b, 2, none⟩ v2).setCell ⟨b, 3, none⟩ v3).setCell ⟨b, 4, none⟩ v4).setCell ⟨b, 5, none⟩ v5).setCell ⟨b, 6, none⟩ v6).setCell ⟨b, 7, none⟩ v7) (some b) := by
  have h0 : (w.setCell ⟨b, 0, none⟩ v0).heap[b]? = some (.cells #[v0, x1, x2, x3, x4, x5, x6, x7] t (0, 0)) := by rw [heap_setCell_same h v0]; rfl
  have h1 : ((w.setCell ⟨b, 0, none⟩ v0).setCell ⟨b, 1, none⟩ v1).heap[b]? = some (.cells #[v0, v1, x2, x3, x4, x5, x6, x7] t (0, 0)) := by rw [heap_setCell_same h0 v1]; rfl
  have h2 : (((w.setCell ⟨b, 0, none⟩ v0).setCell ⟨b, 1, none⟩ v1).setCell ⟨b, 2, none⟩ v2).heap[b]? = some (.cells #[v0, v1, v2, x3, x4, x5, x6, x7] t (0, 0)) := by rw [heap_setCell_same h1 v2]; rfl
  have h3 : ((((w.setCell ⟨b, 0, none⟩ v0).setCell ⟨b, 1, none⟩ v1).setCell ⟨b, 2, none⟩ v2).setCell ⟨b, 3, none⟩ v3).heap[b]? = some (.cells #[v0, v1, v2, v3, x4, x5, x6, x7] t (0, 0)) := by rw [heap_setCell_same h2 v3]; rfl
  have h4 : (((((w.setCell ⟨b, 0, none⟩ v0).setCell ⟨b, 1, none⟩ v1).setCell ⟨b, 2, none⟩ v2).setCell ⟨b, 3, none⟩ v3).setCell ⟨b, 4, none⟩ v4).heap[b]? = some (.cells #[v0, v1, v2, v3, v4, x5, x6, x7] t (0, 0)) := by rw [heap_setCell_same h3 v4]; rfl
  have h5 : ((((((w.setCell ⟨b, 0, none⟩ v0).setCell ⟨b, 1, none⟩ v1).setCell ⟨b, 2, none⟩ v2).setCell ⟨b, 3, none⟩ v3).setCell ⟨b, 4, none⟩ v4).setCell ⟨b, 5, none⟩ v5).heap[b]? = some (.cells #[v0, v1, v2, v3, v4, v5, x6, x7] t (0, 0)) := by rw [heap_setCell_same h4 v5]; rfl
  have h6 : (((((((w.setCell ⟨b, 0, none⟩ v0).setCell ⟨b, 1, none⟩ v1).setCell ⟨b, 2, none⟩ v2).setCell ⟨b, 3, none⟩ v3).setCell ⟨b, 4, none⟩ v4).setCell ⟨b, 5, none⟩ v5).setCell ⟨b, 6, none⟩ v6).heap[b]? = some (.cells #[v0, v1, v2, v3, v4, v5, v6, x7] t (0, 0)) := by rw [heap_setCell_same h5 v6]; rfl
  have h7 : ((((((((w.setCell ⟨b, 0, none⟩ v0).setCell ⟨b, 1, none⟩ v1).setCell ⟨b, 2, none⟩ v2).setCell ⟨b, 3, none⟩ v3).setCell ⟨b, 4, none⟩ v4).setCell ⟨b, 5, none⟩ v5).setCell ⟨b, 6, none⟩ v6).setCell ⟨b, 7, none⟩ v7).heap[b]? = some (.cells #[v0, v1, v2, v3, v4, v5, v6, v7] t (0, 0)) := by rw [heap_setCell_same h6 v7]; rfl
  have g0 : w.grownBy (w.setCell ⟨b, 0, none⟩ v0) (some b) := grown_set _ _ _ _
  have g1 : w.grownBy ((w.setCell ⟨b, 0, none⟩ v0).setCell ⟨b, 1, none⟩ v1) (some b) := grown_trans g0 (grown_set _ _ _ _)
  have g2 : w.grownBy (((w.setCell ⟨b, 0, none⟩ v0).setCell ⟨b, 1, none⟩ v1).setCell ⟨b, 2, none⟩ v2) (some b) := grown_trans g1 (grown_set _ _ _ _)
  have g3 : w.grownBy ((((w.setCell ⟨b, 0, none⟩ v0).setCell ⟨b, 1, none⟩ v1).setCell ⟨b, 2, none⟩ v2).setCell ⟨b, 3, none⟩ v3) (some b) := grown_trans g2 (grown_set _ _ _ _)
  have g4 : w.grownBy (((((w.setCell ⟨b, 0, none⟩ v0).setCell ⟨b, 1, none⟩ v1).setCell ⟨b, 2, none⟩ v2).setCell ⟨b, 3, none⟩ v3).setCell ⟨b, 4, none⟩ v4) (some b) := grown_trans g3 (grown_set _ _ _ _)
  have g5 : w.grownBy ((((((w.setCell ⟨b, 0, none⟩ v0).setCell ⟨b, 1, none⟩ v1).setCell ⟨b, 2, none⟩ v2).setCell ⟨b, 3, none⟩ v3).setCell ⟨b, 4, none⟩ v4).setCell ⟨b, 5, none⟩ v5) (some b) := grown_trans g4 (grown_set _ _ _ _)
  have g6 : w.grownBy (((((((w.setCell ⟨b, 0, none⟩ v0).setCell ⟨b, 1, none⟩ v1).setCell ⟨b, 2, none⟩ v2).setCell ⟨b, 3, none⟩ v3).setCell ⟨b, 4, none⟩ v4).setCell ⟨b, 5, none⟩ v5).setCell ⟨b, 6, none⟩ v6) (some b) := grown_trans g5 (grown_set _ _ _ _)
  have g7 : w.grownBy ((((((((w.setCell ⟨b, 0, none⟩ v0).setCell ⟨b, 1, none⟩ v1).setCell ⟨b, 2, none⟩ v2).setCell ⟨b, 3, none⟩ v3).setCell ⟨b, 4, none⟩ v4).setCell ⟨b, 5, none⟩ v5).setCell ⟨b, 6, none⟩ v6).setCell ⟨b, 7, none⟩ v7) (some b) := grown_trans g6 (grown_set _ _ _ _)
  exact ⟨h7, g7⟩
end Go.Proofs.Ytkpopaadkfgjaaa
