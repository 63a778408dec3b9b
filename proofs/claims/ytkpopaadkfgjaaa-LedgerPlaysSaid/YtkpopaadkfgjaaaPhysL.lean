/-
  Blocks that are laid one behind the other, as plain mathematics of layer 6.
  No condition.
-/
import Derived.Test.YtkpopaadkfgjaaaPhysM
import Derived.Test.YtkpopaadkfgjaaaTagG
import Derived.Test.YtkpopaadkfgjaaaPhysE
namespace Go.Proofs.Ytkpopaadkfgjaaa
open Go.RowKit
set_option linter.unusedVariables false
set_option linter.unusedSimpArgs false

theorem offs_step {f : Nat → Nat} {n : Nat} (h : ∀ k, k < n → bkP f (offs f k)) {i j : Nat} (hij : i < j) (hj : j ≤ n) : offs f i + usz (f (offs f i)) ≤ offs f j ∧ offs f i + 48 ≤ offs f j := by
  induction j with
  | zero => omega
  | succ j ih =>
    have h2 := (bk_ge (h j (by omega))).1
    have e : offs f (j + 1) = offs f j + usz (f (offs f j)) := rfl
    rcases Nat.lt_succ_iff_lt_or_eq.1 hij with h3 | rfl
    · have := ih h3 (by omega); omega
    · omega
/-- what stands ahead of off hangs on the words ahead of it alone -/
theorem bkP_ahead {f g : Nat → Nat} {off x : Nat} (he : ∀ y, y < off → g y = f y) (h : bkP f x) (hx : x + usz (f x) ≤ off) : bkP g x ∧ usz (g x) = usz (f x) := by
  have h1 := bk_ge h
  have e1 : g x = f x := he x (by omega)
  have e2 : g 16 = f 16 := he 16 (by omega)
  have e3 : g (x + usz (f x) - 8) = f (x + usz (f x) - 8) := he _ (by omega)
  have e4 : g (x + 8) = f (x + 8) := he _ (by omega)
  refine ⟨?_, by rw [e1]⟩
  unfold bkP rdP at h ⊢
  rw [e1, e2, e3, e4]
  exact h
theorem offs_ahead {f g : Nat → Nat} {n off : Nat} (h : ∀ k, k < n → bkP f (offs f k)) (ho : offs f n = off) (he : ∀ y, y < off → g y = f y) : ∀ k, k ≤ n → offs g k = offs f k ∧ (k < n → bkP g (offs g k)) := by
  intro k
  induction k with
  | zero =>
    intro _
    refine ⟨rfl, fun hk => ?_⟩
    exact (bkP_ahead he (h 0 hk) (by rw [← ho]; exact (offs_step h hk (Nat.le_refl _)).1)).1
  | succ k ih =>
    intro hk
    obtain ⟨e1, h1⟩ := ih (by omega)
    have hb := bkP_ahead he (h k (by omega)) (by rw [← ho]; exact (offs_step h (by omega) (Nat.le_refl _)).1)
    have e2 : offs g (k + 1) = offs f (k + 1) := by
      show offs g k + usz (g (offs g k)) = offs f k + usz (f (offs f k))
      rw [e1, hb.2]
    refine ⟨e2, fun hk2 => ?_⟩
    rw [e2]
    exact (bkP_ahead he (h (k + 1) hk2) (by rw [← ho]; exact (offs_step h hk2 (Nat.le_refl _)).1)).1
/-- So many blocks are laid from the heap's begin on, up to off. -/
structure LayP (ws : List Nat) (l : List (Nat × Nat)) (off n : Nat) : Prop where
  ok : TxOk ws l
  low : ∀ x, x < 3776 → txSee ws l x = txSee ws [] x
  at_ : offs (txSee ws l) n = off
  good : ∀ k, k < n → bkP (txSee ws l) (offs (txSee ws l) k)
  al : off % 16 = 0 ∧ 3776 ≤ off
/-- the words that a block takes -/
def layB (ws : List Nat) (l : List (Nat × Nat)) (off s p : Nat) : List (Nat × Nat) := txStore ws (txStore ws l off p) (off + s - 8) p
theorem layB_see {ws : List Nat} {l : List (Nat × Nat)} {off s p : Nat} (h1 : stands ws off) (h2 : stands ws (off + s - 8)) (h48 : 48 ≤ s) : txSee ws (layB ws l off s p) off = p ∧ txSee ws (layB ws l off s p) (off + s - 8) = p ∧ ∀ x, x ≠ off → x ≠ off + s - 8 → txSee ws (layB ws l off s p) x = txSee ws l x := by
  unfold layB
  refine ⟨?_, ?_, fun x h3 h4 => ?_⟩
  · rw [see_stored h2, if_neg (by omega), see_stored h1, if_pos rfl]
  · rw [see_stored h2, if_pos rfl]
  · rw [see_stored h2, if_neg h4, see_stored h1, if_neg h3]
theorem fmt4480 : fitsP 4480 4800 := by unfold fitsP; omega
theorem see4480 : txSee (fmt48 4480) [] 16 = 4480 := by rw [fmt48_yes fmt4480, see_nil]; exact fmt48_16 fmt4480
theorem LayP.first : LayP (fmt48 4480) [] 3776 0 := ⟨TxOk.empty _, fun _ _ => rfl, rfl, fun k hk => absurd hk (Nat.not_lt_zero _), by omega⟩
section
variable {l : List (Nat × Nat)} {off n : Nat}
theorem LayP.top (h : LayP (fmt48 4480) l off n) : txSee (fmt48 4480) l 16 = 4480 := by rw [h.low 16 (by decide)]; exact see4480
/-- a block is laid behind, m: how its words are otherwise thought of -/
theorem LayP.next (h : LayP (fmt48 4480) l off n) {s : Nat} {u : Bool} {o : Nat} (hm : mayP s u o) (hs : off + s ≤ 4480) {l' : List (Nat × Nat)} (hok : TxOk (fmt48 4480) l') (h1 : txSee (fmt48 4480) l' off = packN s u o) (h2 : txSee (fmt48 4480) l' (off + s - 8) = packN s u o) (h3 : u = true → txSee (fmt48 4480) l' (off + 8) + 40 ≤ s)
    (h4 : ∀ x, x < off → txSee (fmt48 4480) l' x = txSee (fmt48 4480) l x) : LayP (fmt48 4480) l' (off + s) (n + 1) := by
  have hal := h.al
  have ha := offs_ahead (g := txSee (fmt48 4480) l') h.good h.at_ h4
  have e16 : txSee (fmt48 4480) l' 16 = 4480 := by rw [h4 16 (by omega)]; exact h.top
  have hoff := (ha n (Nat.le_refl _)).1
  rw [h.at_] at hoff
  obtain ⟨_, p2, p3, p4, p5⟩ := unpack_pack hm
  have hmm := hm
  unfold mayP at hmm
  refine ⟨hok, fun x hx => (h4 x (by omega)).trans (h.low x hx), ?_, fun k hk => ?_, by omega⟩
  · show offs (txSee (fmt48 4480) l') n + usz (txSee (fmt48 4480) l' (offs (txSee (fmt48 4480) l') n)) = off + s
    rw [hoff, h1, p3]
  · rcases Nat.lt_succ_iff_lt_or_eq.1 hk with h5 | rfl
    · exact (ha k (by omega)).2 h5
    · rw [hoff]
      unfold bkP rdP
      rw [h1, p3, p4, e16]
      exact ⟨⟨p2, by unfold inP; omega, h2⟩, h3⟩
/-- The heap of a segment in which blocks are laid. -/
structure Laid6 (l : List (Nat × Nat)) (N : Nat) : Prop where
  ok : TxOk (fmt48 4480) l
  chk : chkN (fmt48 4480) l = 0
  walks : Walks (txSee (fmt48 4480) l) N true
  ends : offs (txSee (fmt48 4480) l) N = 4480
  some : 0 < N
theorem LayP.done (h : LayP (fmt48 4480) l 4480 n) (hn : 0 < n) : Laid6 l n := by
  refine ⟨h.ok, ?_, ⟨fun k hk => ⟨?_, h.good k hk⟩, ?_⟩, h.at_, hn⟩
  · have hc : chkP (fmt48 4480) l := by
      unfold chkP
      rw [h.low 16 (by decide), h.low 0 (by decide), h.low 8 (by decide), h.low 40 (by decide), fmt48_len, see4480, see_nil, see_nil, see_nil, fmt48_yes fmt4480]
      exact ⟨fmt4480, fmt48_0 fmt4480, fmt48_8 fmt4480, fmt48_40 fmt4480⟩
    exact if_pos hc
  · rw [h.top]
    have := (bk_ge (h.good k hk)).2.2.1
    rw [h.top] at this
    exact this
  · rw [if_pos rfl, h.top, h.at_]
    exact Nat.le_refl _
end
end Go.Proofs.Ytkpopaadkfgjaaa
