/-
  What the laws of layer 9 have behind laid and played: the Tx with its lists, the rows of the document's lists in a box, and the row of all blocks.
  No condition.
-/
import Derived.Test.YtkpopaadkfgjaaaLedW
namespace Go.Proofs.Ytkpopaadkfgjaaa
open Go.RowKit
set_option linter.unusedVariables false
set_option linter.unusedSimpArgs false
set_option maxRecDepth 100000

/-- what played tells, as the walk has it -/
structure Pl9 (w1 w2 w' : World) (T : Nat) (R : Option Nat) (U : List Nat) (tg X Y : Nat → Nat) (m : Nat) (L : Nat → List Nat) (va : Nat → Option Addr) (vc : Nat → Nat) : Prop where
  is : ∃ R', LW w1 w' T R' U tg L ∧ (∀ c, c < 8 → KW w' R' w2.heap.size (.slice (va c) (L c).length (vc c)) (L c)) ∧ Keep w2 R w' R'
  few : ∀ c, (L c).length ≤ 40
  says : playL U X Y (min m 40) = L
theorem plays_from {w1 w2 : World} {T : Nat} {R : Option Nat} {U : List Nat} {tg : Nat → Nat} {fa lb : Option Addr} {fc m cm : Nat} {X Y : Nat → Nat} (G : Laid9G w1 w2 T R U tg (.slice fa U.length fc)) (hs : StepsAt w1 lb m X Y) (hm : m ≤ maxLen) :
    Calls Try.prog 13 #[.pointer (some ⟨T, 0, none⟩), .slice fa U.length fc, .slice lb m cm] w2 fun e w' => ∃ L va vc, e = .returned (.tuple #[.agg #[.slice (va 0) (L 0).length (vc 0), .slice (va 1) (L 1).length (vc 1), .slice (va 2) (L 2).length (vc 2), .slice (va 3) (L 3).length (vc 3), .slice (va 4) (L 4).length (vc 4), .slice (va 5) (L 5).length (vc 5), .slice (va 6) (L 6).length (vc 6), .slice (va 7) (L 7).length (vc 7)], .bool true]) ∧ Pl9 w1 w2 w' T R U tg X Y m L va vc := by
  refine (played9_any G.lists G.grid rfl G.pos (Nat.le_trans G.few (by decide)) G.row hs hm).mono ?_
  rintro e w' ⟨R', vs, h1, h2, h3, h4⟩
  have key : ∀ c, c < 8 → ∃ q : Option Addr × Nat, vs c = .slice q.1 (playL U X Y (min m 40) c).length q.2 := fun c hc => by
    obtain ⟨a, cp, e, _⟩ := (h3 c hc).1.lie
    exact ⟨(a, cp), e⟩
  obtain ⟨q, hq⟩ := Deep.choose_lt (α := Option Addr × Nat) (p := fun c q => vs c = .slice q.1 (playL U X Y (min m 40) c).length q.2) key
  refine ⟨playL U X Y (min m 40), fun c => (q c).1, fun c => (q c).2, ?_, ⟨R', h2, fun c hc => by rw [← hq c hc]; exact h3 c hc, h4⟩, fun c => Nat.le_trans (playL_len _ c) (Nat.min_le_right _ _), rfl⟩
  rw [h1]
  show Ending.returned (.tuple #[.agg #[vs 0, vs 1, vs 2, vs 3, vs 4, vs 5, vs 6, vs 7], .bool true]) = _
  rw [hq 0 (by decide), hq 1 (by decide), hq 2 (by decide), hq 3 (by decide), hq 4 (by decide), hq 5 (by decide), hq 6 (by decide), hq 7 (by decide)]
/-- The Tx has the lists L', the box's rows have L, another row has all blocks. -/
structure Rd (w0 : World) (T : Nat) (U : List Nat) (tg : Nat → Nat) (ob base : Nat) (L L' : Nat → List Nat) (va : Nat → Option Addr) (vc : Nat → Nat) (fa : Option Addr) (fc : Nat) (wr : World) : Prop where
  is : ∃ R, LW w0 wr T R U tg L' ∧ (∀ c, c < 8 → KW wr R base (.slice (va c) (L c).length (vc c)) (L c)) ∧ KW wr R base (.slice fa U.length fc) U ∧ wr.heap[ob]? = some (.cells (box8 fun c => .slice (va c) (L c).length (vc c)) 38 (0, 0))
section
variable {w0 w1 w2 w' wr : World} {T ob base c n m k off : Nat} {R : Option Nat} {a fa : Option Addr} {fc : Nat} {U xs : List Nat} {tg X Y : Nat → Nat} {L L' : Nat → List Nat} {va : Nat → Option Addr} {vc : Nat → Nat}
theorem Rd.later (h : Rd w0 T U tg ob base L L' va vc fa fc wr) (hg : wr.grownBy w' none) : Rd w0 T U tg ob base L L' va vc fa fc w' := by
  obtain ⟨R, h1, h2, h3, h4⟩ := h.is
  exact ⟨R, h1.later hg, fun c hc => (h2 c hc).later hg, h3.later hg, (hg.block _ (lt_of_block h4) (by simp)).trans h4⟩
theorem Rd.since (h : Rd w0 T U tg ob base L L' va vc fa fc wr) : w0.grownBy wr none := by
  obtain ⟨R, h1, _⟩ := h.is
  exact h1.since
theorem Rd.cell (h : Rd w0 T U tg ob base L L' va vc fa fc wr) (hc : c < 8) : wr.cell? ⟨ob, c, none⟩ = some (.slice (va c) (L c).length (vc c)) ∧ WordsAt wr (va c) (L c) ∧ OwnW wr base (.slice (va c) (L c).length (vc c)) (L c) := by
  obtain ⟨R, h1, h2, h3, h4⟩ := h.is
  obtain ⟨a, cp, e, hw⟩ := (h2 c hc).1.lie
  injection e with e _ _
  subst e
  refine ⟨?_, hw, (h2 c hc).1⟩
  unfold World.cell?
  simp only [h4]
  exact box8_get (fun c => .slice (va c) (L c).length (vc c)) hc
theorem Rd.all (h : Rd w0 T U tg ob base L L' va vc fa fc wr) : WordsAt wr fa U := by
  obtain ⟨R, h1, h2, h3, h4⟩ := h.is
  obtain ⟨a, cp, e, hw⟩ := h3.1.lie
  injection e with e _ _
  subst e
  exact hw
theorem Rd.at_ {b o : Nat} (h : Rd w0 T U tg ob base L L' va vc (some ⟨b, o, none⟩) fc wr) (hk : k < U.length) : wr.cell? ⟨b, o + k, none⟩ = some (.int .u64 (U.getD k 0 : Nat)) := by
  obtain ⟨b1, o1, e, _, hc⟩ := h.all.cells (by omega)
  injection e with e
  injection e with e1 e2
  subst e1 e2
  exact hc k hk
theorem getD_in {xs : List Nat} {k : Nat} (hk : k < xs.length) : xs.getD k 0 ∈ xs := by
  rw [List.getD_eq_getElem?_getD, List.getElem?_eq_getElem hk]
  exact List.getElem_mem _
theorem Rd.check (h : Rd w0 T U tg ob base L L' va vc fa fc wr) (hU : Grid U) (hc : c < 8) (hw : WordsAt wr a (L' c)) (hn : (L' c).length = n) :
    Calls Try.prog 10 #[.pointer (some ⟨T, 0, none⟩), .int .i64 c, .slice a n k] wr fun e w' => e = .returned (.bool true) ∧ wr.grownBy w' none := by
  obtain ⟨R, h1, _⟩ := h.is
  exact lw_check h1 hU hc hw hn
theorem Rd.list (h : Rd w0 T U tg ob base L L' va vc fa fc wr) (hU : Grid U) (hc : c < 8) :
    Calls Try.prog 15 #[.pointer (some ⟨T, 0, none⟩), .int .i64 c] wr fun e w' => ∃ v, e = .returned v ∧ OwnW w' wr.heap.size v (L' c) ∧ wr.grownBy w' none := by
  obtain ⟨R, h1, _⟩ := h.is
  exact lw_list h1 hU hc
theorem Rd.list_first (h : Rd w0 T U tg ob base L L' va vc fa fc wr) (hU : Grid U) (hc : c < 8) {x : Nat} {ys : List Nat} (hx : L' c = x :: ys) (hm : ys.length + 1 = m) :
    Calls Try.prog 15 #[.pointer (some ⟨T, 0, none⟩), .int .i64 c] wr fun e w' => ∃ b o k, e = .returned (.slice (some ⟨b, o, none⟩) m k) ∧ Hid (∀ w2, w'.grownBy w2 none → w2.cell? ⟨b, o, none⟩ = some (.int .u64 (x : Nat))) ∧ wr.grownBy w' none := by
  refine (h.list hU hc).mono ?_
  rintro e w' ⟨v, rfl, ho, hg⟩
  rw [hx] at ho
  obtain ⟨a, k, rfl, hw⟩ := ho.lie
  obtain ⟨b, o, rfl, _⟩ := hw.cells (by simp)
  refine ⟨b, o, k, by rw [← hm]; rfl, Lib.hid fun w2 hg2 => ?_, hg⟩
  obtain ⟨b1, o1, e, _, hc⟩ := (hw.later hg2).cells (by simp)
  injection e with e
  injection e with e1 e2
  subst e1 e2
  exact hc 0 (by simp)
theorem Rd.head (h : Rd w0 T U tg ob base L L' va vc fa fc wr) (hc : c < 8) {x : Nat} (hx : (L' c).headD 0 = x) :
    Calls Try.prog 18 #[.pointer (some ⟨T, 0, none⟩), .int .i64 c] wr fun e w' => e = .returned (.int .u64 (x : Nat)) ∧ wr.grownBy w' none := by
  obtain ⟨R, h1, _⟩ := h.is
  rw [← hx]
  exact lw_head h1 hc
theorem Rd.load (h : Rd w0 T U tg ob base L L' va vc fa fc wr) (hU : Grid U) {x : Nat} (hx : x ∈ U) :
    Calls Try.prog 21 #[.pointer (some ⟨T, 0, none⟩), .int .u64 x] wr fun e w' => e = .returned (.int .u64 (tg x : Nat)) ∧ wr.grownBy w' none := by
  obtain ⟨R, h1, _⟩ := h.is
  exact lw_load h1 hU hx
theorem Rd.link (h : Rd w0 T U tg ob base L L' va vc fa fc wr) (hU : Grid U) (hc : c < 8) (ho : off ∈ U) (hn : ∀ d, d < 8 → off ∉ L' d) :
    Calls Try.prog 17 #[.pointer (some ⟨T, 0, none⟩), .int .i64 c, .int .u64 off] wr fun e w' => e = .returned (.tuple #[]) ∧ Rd w0 T U tg ob base L (setL L' c (off :: L' c)) va vc fa fc w' := by
  obtain ⟨R, h1, h2, h3, h4⟩ := h.is
  refine (lw_link h1 hU hc ho hn).mono ?_
  rintro e w' ⟨rfl, R', k1, k2⟩
  exact ⟨rfl, ⟨R', k1, fun c hc => k2.row (h2 c hc), k2.row h3, k2.far h4 (by decide) (by decide)⟩⟩
theorem Rd.unlink (h : Rd w0 T U tg ob base L L' va vc fa fc wr) (hU : Grid U) (hc : c < 8) (ho : off ∈ L' c) :
    Calls Try.prog 19 #[.pointer (some ⟨T, 0, none⟩), .int .i64 c, .int .u64 off] wr fun e w' => e = .returned (.tuple #[]) ∧ Rd w0 T U tg ob base L (setL L' c ((L' c).filter fun y => decide (y ≠ off))) va vc fa fc w' := by
  obtain ⟨R, h1, h2, h3, h4⟩ := h.is
  refine (lw_unlink h1 hU hc ho).mono ?_
  rintro e w' ⟨rfl, R', k1, k2⟩
  exact ⟨rfl, ⟨R', k1, fun c hc => k2.row (h2 c hc), k2.row h3, k2.far h4 (by decide) (by decide)⟩⟩
theorem Pl9.box (h : Pl9 w1 w2 w' T R U tg X Y m L va vc) (G : Laid9G w1 w2 T R U tg (.slice fa U.length fc)) (hg : w1.grownBy w2 none) : Rd w1 T U tg w'.heap.size w1.heap.size L L va vc fa fc (w'.alloc (.cells #[.slice (va 0) (L 0).length (vc 0), .slice (va 1) (L 1).length (vc 1), .slice (va 2) (L 2).length (vc 2), .slice (va 3) (L 3).length (vc 3), .slice (va 4) (L 4).length (vc 4), .slice (va 5) (L 5).length (vc 5), .slice (va 6) (L 6).length (vc 6), .slice (va 7) (L 7).length (vc 7)] 38)) := by
  obtain ⟨R', h1, h2, h3⟩ := h.is
  exact ⟨R', h1.later (World.grownBy_alloc _ _ _), fun c hc => ((h2 c hc).later (World.grownBy_alloc _ _ _)).mono hg.size, (h3.row G.row).later (World.grownBy_alloc _ _ _), heap_alloc_new' w' _⟩
theorem last_back {x : Nat} (h : x ∉ L c) : setL (setL L c (x :: L c)) c ((setL L c (x :: L c) c).filter fun y => decide (y ≠ x)) = L := by
  funext d
  by_cases e : d = c
  · subst e
    rw [setL_same, setL_same]
    rw [List.filter_cons_of_neg (by simp), List.filter_eq_self]
    intro y hy
    exact decide_eq_true fun e => h (e ▸ hy)
  · rw [setL_other _ e, setL_other _ e]
end
end Go.Proofs.Ytkpopaadkfgjaaa
