/-
  What the statements of layer 10 begin with: a formatted segment's heap; both ways of taking, in one; a heap's box beside a Tx.
  Conditions: as said at each.
-/
import Derived.Test.YtoamlkljfmgomaaGreatCarX
import Derived.Test.YtoamlkljfmgomaaGreatCarW
import Derived.Test.YtoamlkljfmgomaaGreatCarK
namespace Go.Proofs.YtoamlkljfmgomaaGreat
open Go.RowKit
set_option linter.unusedVariables false
set_option linter.unusedSimpArgs false
set_option maxRecDepth 100000

/-! ### a formatted segment -/
theorem sound_first : SoundF (txSee (fmt48 4800) []) 4800 [freeB 3776 1024] (fun _ => []) := by
  have hf : fitsP 4800 4800 := fmt4800
  have e1 : ∀ x, txSee (fmt48 4800) [] x = if x = 4792 then 1024 else if x = 3776 then 1024 else if x = 32 then 3776 else if x = 40 then sumN 4800 else if x = 16 then 4800 else if x = 8 then 1 else if x = 0 then 7161130718081542961 else 0 := fun x => by
    rw [fmt48_yes hf, see_nil, getW_fmt (K := 600) hf]
  obtain ⟨f, ef⟩ : ∃ f, txSee (fmt48 4800) [] = f := ⟨_, rfl⟩
  rw [ef] at e1 ⊢
  have f16 : f 16 = 4800 := by rw [e1]; rfl
  have hp : packN 1024 false 0 = 1024 := by decide
  have hhead : HeadOk f := ⟨by rw [f16]; exact hf, by rw [e1]; rfl, by rw [e1]; rfl, by rw [f16, e1]; rfl⟩
  have htold : Told f 4800 3776 [freeB 3776 1024] 4800 := ⟨rfl, free_is (by decide) (by decide) (by decide) (by decide) (by decide) (by decide) (by rw [e1, hp]; rfl) (by rw [e1, hp]; rfl), rfl⟩
  have hfr : freesB [freeB 3776 1024] = [3776] := rfl
  have hus : usedB [freeB 3776 1024] = [] := rfl
  have hung : Hung f [3776] := by
    refine ⟨⟨fun x hx => ?_, by simp, fun x hx y hy hn => ?_⟩, ?_⟩
    · rw [List.mem_singleton.1 hx]; decide
    · rw [List.mem_singleton.1 hx, List.mem_singleton.1 hy] at hn; exact absurd rfl hn
    · have e32 : f 32 = 3776 := by rw [e1]; rfl
      rw [e32]
      refine TreeOf.node (L := []) (R := []) (by decide) (by simp) (by simp) ?_ ?_
      · rw [show f (3776 + 8) = 0 by rw [e1]; rfl]; exact TreeOf.nil
      · rw [show f (3776 + 16) = 0 by rw [e1]; rfl]; exact TreeOf.nil
  have hF : HeapF f 4800 [freeB 3776 1024] := ⟨hhead, f16, by decide, htold, hung⟩
  refine hF.sound trivial ?_ ?_
  · refine ⟨by simp, by simp, by simp, fun c hc => ?_, fun c hc => trivial⟩
    have := slotH_lt hc
    have h2 : slotH c ≠ 32 ∧ slotH c ≠ 40 ∧ slotH c ≠ 16 ∧ slotH c ≠ 8 ∧ slotH c ≠ 0 := by unfold slotH; omega
    rw [e1, if_neg (by omega), if_neg (by omega), if_neg h2.1, if_neg h2.2.1, if_neg h2.2.2.1, if_neg h2.2.2.2.1, if_neg h2.2.2.2.2]
    rfl
  · intro b hb hu
    rw [List.mem_singleton.1 hb] at hu
    cases hu
/-! ### both Takes -/
/-- what Take tells, and which heap stands behind -/
def tkP (bs : List Blk) (n a : Nat) : Nat := match fitM bs n a with | some i => gO bs i + padN (gO bs i) a + 32 | none => 0
def tkE (bs : List Blk) (n a : Nat) : Nat := match fitM bs n a with | some _ => 0 | none => 3
def tkB (bs : List Blk) (owner n a : Nat) : List Blk := match fitM bs n a with | some i => takeB bs i (padN (gO bs i) a) (needOf n) owner n | none => bs
def tkL (bs : List Blk) (L : Nat → List Nat) (owner n a : Nat) : Nat → List Nat := match fitM bs n a with | some i => takeL L owner (gO bs i + padN (gO bs i) a) | none => L
section
variable {w0 w w' : World} {T : Nat} {R R' : Option Nat} {ws : List Nat} {E n a i base m k p owner : Nat} {bs : List Blk} {L : Nat → List Nat} {v : Value} {la : Option Addr}
theorem hw_few600 (h : HW w0 w T R ws E bs L) : bs.length ≤ 600 := by
  obtain ⟨h0, M, B, D, l, h1, h2⟩ := h
  have hnd : (bs.map Blk.off).Nodup := by
    have := h2.told.apart
    unfold List.Nodup
    rw [List.pairwise_map]
    refine this.imp_of_mem fun {x y} hx hy hxy => ?_
    have := (h2.told.is x hx).size
    omega
  have := few_places 600 (bs.map Blk.off) hnd fun x hx => by
    obtain ⟨b, hb, rfl⟩ := List.mem_map.1 hx
    have h3 := h2.told.is b hb
    have := h3.al
    have := h3.hi
    have := h3.size
    have := h2.low
    omega
  rwa [List.length_map] at this
theorem tk_code (h : HW w0 w T R ws E bs L) (ha : alignP a) (hn : n ≤ 18446744073709551560) (how : owner ≤ 8) :
    Calls Tryz.prog 14 #[.pointer (some ⟨T, 0, none⟩), .int .i64 owner, .int .u64 n, .int .u64 a] w fun e w' => e = .returned (.tuple #[.int .u64 (tkP bs n a : Nat), .int .i64 (tkE bs n a : Nat)]) ∧ ∃ R', HW w0 w' T R' ws E (tkB bs owner n a) (tkL bs L owner n a) ∧ Keep w R w' R' := by
  have hal := ha.le
  unfold tkP tkE tkB tkL
  cases hf : fitM bs n a with
  | some i => exact hw_take_ok h ha hn how hf
  | none =>
    refine (hw_take_bad h (owner := owner) (by omega) (by omega) (by omega) (by omega) (fitErr_none ha hn hf) (by decide)).mono ?_
    rintro e w' ⟨rfl, hg⟩
    exact ⟨rfl, R, h.later hg, Keep.of_grown hg⟩
theorem tk_ref {V : World} {R0 : Option Nat} (h : HW w0 w T R ws E bs L) (hR : ∀ g, R0 = some g → g < V.heap.size) (hv : HvK V R0 base v E bs L) (hb : base ≤ V.heap.size) (ha : alignP a) (hn : n ≤ 18446744073709551560) (how : owner ≤ 8) :
    Calls Tryz.prog 15 #[v, .int .i64 owner, .int .u64 n, .int .u64 a] V fun e w' => ∃ v', e = .returned (.tuple #[v', .int .u64 (tkP bs n a : Nat), .int .i64 (tkE bs n a : Nat)]) ∧ HvK w' R0 base v' E (tkB bs owner n a) (tkL bs L owner n a) ∧ V.grownBy w' none := by
  have hal := ha.le
  have h6 := hw_few600 h
  have hbd := hw_bounds h
  have hl : ∀ c, c < 8 → (L c).length ≤ 600 := fun c hc => hw_list_few h hc
  unfold tkP tkE tkB tkL
  cases hf : fitM bs n a with
  | some i =>
    obtain ⟨b0, vs0, e0, o0, k0⟩ := hv
    -- lists of no client are of no matter
    have hv8 : HvIs V base v E bs (fun c => if c < 8 then L c else []) :=
      ⟨⟨b0, vs0, e0, o0, fun c hc => by show OwnW V base (vs0 c) (if c < 8 then L c else []); rw [if_pos hc]; exact (k0 c hc).1⟩⟩
    refine (rtake10_ok hv8 hb (by omega) hbd ha hn how hf fun c => ?_).mono ?_
    · show (if c < 8 then L c else []).length ≤ 1000
      by_cases hc : c < 8
      · rw [if_pos hc]; have := hl c hc; omega
      · rw [if_neg hc]; decide
    · rintro e w' ⟨v', rfl, h1, hrw, hg⟩
      obtain ⟨b, vs, q1, q2, q3⟩ := h1.is
      obtain ⟨b', vs', q4, q5⟩ := hrw E b0 vs0 e0
      have q6 := (heapV_inj (q1.symm.trans q4)).2
      refine ⟨v', rfl, ⟨b, vs, q1, q2, fun c hc => ⟨?_, fun g hg e => ?_⟩⟩, hg⟩
      · have := q3 c hc
        show OwnW w' base (vs c) (takeL L owner (gO bs i + padN (gO bs i) a) c)
        unfold takeL at this ⊢
        by_cases h0 : owner = 0
        · rw [if_pos h0] at this ⊢
          simp only [hc, if_true] at this
          exact this
        · rw [if_neg h0] at this ⊢
          unfold setL at this ⊢
          have ho8 : owner - 1 < 8 := by omega
          simp only [hc, ho8, if_true] at this
          exact this
      · rw [q6 c hc] at hg
        rcases q5 c hc with h7 | h7
        · rw [h7] at hg
          exact (k0 c hc).2 g hg e
        · have := h7 g hg
          have := hR g e
          omega
  | none =>
    refine (rtake10_bad hv.is (by omega) hbd (by omega) (by omega) (by omega) (by omega) (fitErr_none ha hn hf) (by decide)).mono ?_
    rintro e w' ⟨rfl, hg⟩
    exact ⟨v, rfl, hv.later hg, hg⟩
/-! ### a box beside them -/
/-- a box of the call's own that is turned leaves the Tx .. -/
theorem HW.other {b : Nat} {c : Array Value} {t : TypeId} (h : HW w0 w T R ws E bs L) (hb : w.heap[b]? = some (.cells c t (0, 0))) (h1 : t ≠ 109) (h2 : t ≠ 23) (h3 : t ≠ 142) (h4 : t ≠ 5) (hn : w0.heap.size ≤ b) (hg : w.grownBy w' (some b)) : HW w0 w' T R ws E bs L := by
  obtain ⟨h0, M, B, D, l, X, hS⟩ := h
  refine ⟨h0, M, B, D, l, ⟨X.tx.turned (Turned.of_grown hg) (fun k hk => ?_), grown_step X.since hg (fun i hi => .inl (by injection hi with hi; omega)), X.newT, X.newM, X.newR, X.newB, X.newD⟩, hS⟩
  injection hk with hk
  subst hk
  exact ⟨X.tx.far hb h1 h2, fun e => ne_type hb X.tx.seg.head h3 e, fun e => ne_type hb X.tx.seg.data h4 e⟩
/-- .. and rows of other types -/
theorem own_other {b : Nat} {c : Array Value} {t e : TypeId} {size : Nat} {xs : List Value} (h : w.ownsRow base e size v m xs) (hb : w.heap[b]? = some (.cells c t (0, 0))) (hne : t ≠ e) (hg : w.grownBy w' (some b)) : w'.ownsRow base e size v m xs :=
  World.ownsRow.kept h hg (by
    by_cases e : v.ownBlock = none
    · exact .inl e
    · refine .inr fun e2 => ?_
      obtain ⟨g, hg2⟩ := Option.ne_none_iff_exists'.1 e
      obtain ⟨_, cur, hb2⟩ := row_block h hg2
      rw [hg2] at e2
      injection e2 with e2
      subst e2
      rw [hb] at hb2
      injection hb2 with hb2
      injection hb2 with _ hb2 _
      exact hne hb2)
theorem HvK.other {b : Nat} {c : Array Value} {t : TypeId} (h : HvK w R base v E bs L) (hb : w.heap[b]? = some (.cells c t (0, 0))) (h1 : t ≠ 43) (h2 : t ≠ 23) (hg : w.grownBy w' (some b)) : HvK w' R base v E bs L := by
  obtain ⟨bl, vs, q1, q2, q3⟩ := h
  exact ⟨bl, vs, q1, own_other q2 hb h1 hg, fun c hc => ⟨own_other (q3 c hc).1 hb h2 hg, (q3 c hc).2⟩⟩
/-- the cells of a heap's value, as they stand in a box -/
theorem HvK.lie (h : HvK w R base v E bs L) : ∃ (la : Option Addr) (n c : Nat) (va : Nat → Option Addr) (ln vc : Nat → Nat), v = heapV E (.slice la n c) (fun c => .slice (va c) (ln c) (vc c)) ∧ bs.length = n := by
  obtain ⟨b, vs, rfl, h2, h3⟩ := h
  obtain ⟨la, c, rfl, _⟩ := h2.at_
  obtain ⟨va, ln, vc, e, _⟩ := heap_lie (E := E) (b := .slice la bs.length c) fun c hc => (h3 c hc).1
  exact ⟨la, _, c, va, ln, vc, e, rfl⟩
end
end Go.Proofs.YtoamlkljfmgomaaGreat
