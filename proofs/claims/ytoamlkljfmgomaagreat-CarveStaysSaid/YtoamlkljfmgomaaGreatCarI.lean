/-
  Layer 10's plain answer Take.
  Conditions: the heap's value is told; its blocks are 1000 at most, begin on multiples of 16, and are small; n bytes fit.
-/
import Derived.Test.YtoamlkljfmgomaaGreatCarH
import Derived.Deep.Slices
namespace Go.Proofs.YtoamlkljfmgomaaGreat
open Go.RowKit
set_option linter.unusedVariables false
set_option linter.unusedSimpArgs false
set_option maxRecDepth 100000

/-- which rows a heap's lists have behind: those ahead, or such as are new -/
def RowsOf (v v' : Value) (n : Nat) : Prop := ∀ E b vs, v = heapV E b vs → ∃ b' vs', v' = heapV E b' vs' ∧ ∀ c, c < 8 → vs' c = vs c ∨ ∀ g, (vs' c).ownBlock = some g → n ≤ g
theorem heapV_inj {E E' : Nat} {b b' : Value} {f g : Nat → Value} (e : heapV E b f = heapV E' b' g) : E = E' ∧ ∀ c, c < 8 → f c = g c := by
  unfold heapV at e
  simp only [Value.agg.injEq, Array.mk.injEq, List.cons.injEq, Value.int.injEq, Int.ofNat_inj, Int.natCast_inj, true_and, and_true] at e
  obtain ⟨e0, _, e2, e3, e4, e5, e6, e7, e8, e9⟩ := e
  refine ⟨e0, fun c hc => ?_⟩
  match c, hc with
  | 0, _ => exact e2
  | 1, _ => exact e3
  | 2, _ => exact e4
  | 3, _ => exact e5
  | 4, _ => exact e6
  | 5, _ => exact e7
  | 6, _ => exact e8
  | 7, _ => exact e9
theorem rows_of {E n : Nat} {b b' : Value} {f g : Nat → Value} (h : ∀ c, c < 8 → g c = f c ∨ ∀ q, (g c).ownBlock = some q → n ≤ q) : RowsOf (heapV E b f) (heapV E b' g) n := fun E' b1 vs e => by
  obtain ⟨rfl, e2⟩ := heapV_inj e
  refine ⟨b', g, rfl, fun c hc => ?_⟩
  rw [← e2 c hc]
  exact h c hc
theorem heap_lie {w : World} {base E : Nat} {b : Value} {vs : Nat → Value} {L : Nat → List Nat} (hl : ∀ c, c < 8 → OwnW w base (vs c) (L c)) : ∃ (va : Nat → Option Addr) (ln vc : Nat → Nat), heapV E b vs = heapV E b (fun c => .slice (va c) (ln c) (vc c)) ∧ (∀ c, c < 8 → OwnW w base (.slice (va c) (ln c) (vc c)) (L c)) ∧ ∀ c, (L c).length = ln c := by
  have key : ∀ c, c < 8 → ∃ q : Option Addr × Nat, vs c = .slice q.1 (L c).length q.2 := fun c hc => by
    obtain ⟨a, cp, e, _⟩ := (hl c hc).lie
    exact ⟨(a, cp), e⟩
  obtain ⟨q, hq⟩ := Go.Deep.choose_lt (α := Option Addr × Nat) (p := fun c q => vs c = .slice q.1 (L c).length q.2) key
  refine ⟨fun c => (q c).1, fun c => (L c).length, fun c => (q c).2, ?_, fun c hc => by rw [← hq c hc]; exact hl c hc, fun c => rfl⟩
  unfold heapV
  rw [hq 0 (by decide), hq 1 (by decide), hq 2 (by decide), hq 3 (by decide), hq 4 (by decide), hq 5 (by decide), hq 6 (by decide), hq 7 (by decide)]
theorem ownB_lie {w : World} {base : Nat} {t : TypeId} {v : Value} {l : List Blk} (h : OwnB w base t v l) : ∃ la n c, v = .slice la n c ∧ Hid (n = l.length) := by
  obtain ⟨la, c, e, _⟩ := h.at_
  exact ⟨la, _, c, e, Lib.hid rfl⟩
theorem own_cap {w : World} {base : Nat} {e : TypeId} {size n c : Nat} {la : Option Addr} {xs : List Value} (h : w.ownsRow base e size (.slice la n c) n xs) : n ≤ c := by
  rcases h.2 with ⟨h1, h2⟩ | ⟨g, cap, cur, hv, _, _, h3, _⟩
  · injection h1 with _ h1 h3
    omega
  · injection hv with _ _ h4
    omega
theorem rfree_lit (off s : Nat) (w : World) :
    Calls Tryz.prog 42 #[.int .u64 off, .int .u64 s] w fun e w' => e = .returned (.agg #[.int .u64 off, .int .u64 s, .bool false, .int .i64 0, .int .u64 0]) ∧ w.grownBy w' none := rfree_any off s w
end Go.Proofs.YtoamlkljfmgomaaGreat
