/-
  Texts of one layer, one behind the other: memory, contracts of the functions, and what follows of them.
  Conditions: as each theorem says.
-/
import Derived.Test.YtkkkgikmeiocaaaLWoa
import Derived.Test.YtkkkgikmeiocaaaLTxa
import Derived.Test.YtkkkgikmeiocaaaLWob
import Derived.SliceStrings
import Derived.Test.YtkkkgikmeiocaaaLCla
set_option linter.unusedVariables false
set_option linter.unusedSimpArgs false
namespace Go.Proofs.Ytkkkgikmeiocaaa
def dAt (i : Nat) : Nat := 3392 + 24 * i
def stF (f : Nat → Nat) (h a b : Nat) : Nat → Nat → Option Nat
  | 0, _ => none
  | n + 1, k => if f (dAt ((h + k) % 16) + 16) = 0 then none else if 1 < f (dAt ((h + k) % 16) + 16) ∧ f (dAt ((h + k) % 16)) = a ∧ f (dAt ((h + k) % 16) + 8) = b then some ((h + k) % 16) else stF f h a b n (k + 1)
def plF (f : Nat → Nat) (h : Nat) : Nat → Nat → Option Nat
  | 0, _ => none
  | n + 1, k => if f (dAt ((h + k) % 16) + 16) < 2 then some ((h + k) % 16) else plF f h n (k + 1)
def liveD (f : Nat → Nat) (a b j : Nat) : Prop := j < 16 ∧ 1 < f (dAt j + 16) ∧ f (dAt j) = a ∧ f (dAt j + 8) = b
def putD (f : Nat → Nat) (i a b p : Nat) : Nat → Nat := fun x => if x = dAt i + 16 then p else if x = dAt i + 8 then b else if x = dAt i then a else f x
def dropD (f : Nat → Nat) (i : Nat) : Nat → Nat := fun x => if x = dAt i + 16 then 1 else f x
section
variable {f g : Nat → Nat} {h h' a b a' b' n k i j p : Nat}
theorem stF_some : ∀ {n k : Nat}, stF f h a b n k = some j → ∃ m, k ≤ m ∧ m < k + n ∧ j = (h + m) % 16 ∧ liveD f a b j ∧ ∀ q, k ≤ q → q < m → f (dAt ((h + q) % 16) + 16) ≠ 0 ∧ ¬ liveD f a b ((h + q) % 16)
  | 0, _, e => by cases e
  | n + 1, k, e => by
    unfold stF at e
    split at e
    · cases e
    · rename_i h0
      split at e
      · rename_i h1
        injection e with e
        exact ⟨k, Nat.le_refl _, by omega, e.symm, ⟨by omega, by rw [← e]; exact h1.1, by rw [← e]; exact h1.2.1, by rw [← e]; exact h1.2.2⟩, fun q h2 h3 => by omega⟩
      · rename_i h1
        obtain ⟨m, m1, m2, m3, m4, m5⟩ := stF_some e
        refine ⟨m, by omega, by omega, m3, m4, fun q h2 h3 => ?_⟩
        rcases Nat.lt_or_ge k q with h4 | h4
        · exact m5 q h4 h3
        · obtain rfl : q = k := by omega
          exact ⟨h0, fun hl => h1 hl.2⟩
theorem stF_is : ∀ {n k m : Nat}, k ≤ m → m < k + n → liveD f a b ((h + m) % 16) → (∀ q, k ≤ q → q < m → f (dAt ((h + q) % 16) + 16) ≠ 0 ∧ ¬ liveD f a b ((h + q) % 16)) → stF f h a b n k = some ((h + m) % 16)
  | 0, k, m, h1, h2, _, _ => by omega
  | n + 1, k, m, h1, h2, h3, h4 => by
    unfold stF
    rcases Nat.lt_or_ge k m with h5 | h5
    · obtain ⟨g0, g1⟩ := h4 k (Nat.le_refl _) h5
      rw [if_neg g0, if_neg (fun e => g1 ⟨by omega, e⟩)]
      exact stF_is (by omega) (by omega) h3 fun q a b => h4 q (by omega) b
    · obtain rfl : m = k := by omega
      have := h3.2.1
      rw [if_neg (by omega), if_pos h3.2]
theorem stF_none (hn : ∀ m, k ≤ m → m < k + n → (∀ q, k ≤ q → q < m → f (dAt ((h + q) % 16) + 16) ≠ 0) → ¬ liveD f a b ((h + m) % 16)) : stF f h a b n k = none := by
  cases e : stF f h a b n k with
  | none => rfl
  | some j =>
    obtain ⟨m, m1, m2, rfl, m4, m5⟩ := stF_some e
    exact absurd m4 (hn m m1 m2 fun q a b => (m5 q a b).1)
theorem plF_some : ∀ {n k : Nat}, plF f h n k = some j → ∃ m, k ≤ m ∧ m < k + n ∧ j = (h + m) % 16 ∧ f (dAt j + 16) < 2 ∧ ∀ q, k ≤ q → q < m → 2 ≤ f (dAt ((h + q) % 16) + 16)
  | 0, _, e => by cases e
  | n + 1, k, e => by
    unfold plF at e
    split at e
    · rename_i h0
      injection e with e
      exact ⟨k, Nat.le_refl _, by omega, e.symm, by rw [← e]; exact h0, fun q h2 h3 => by omega⟩
    · rename_i h0
      obtain ⟨m, m1, m2, m3, m4, m5⟩ := plF_some e
      refine ⟨m, by omega, by omega, m3, m4, fun q h2 h3 => ?_⟩
      rcases Nat.lt_or_ge k q with h4 | h4
      · exact m5 q h4 h3
      · obtain rfl : q = k := by omega
        omega
theorem plF_none : ∀ {n k : Nat}, plF f h n k = none → ∀ q, k ≤ q → q < k + n → 2 ≤ f (dAt ((h + q) % 16) + 16)
  | 0, k, _, q, h1, h2 => by omega
  | n + 1, k, e, q, h1, h2 => by
    unfold plF at e
    split at e
    · cases e
    · rename_i h0
      rcases Nat.lt_or_ge k q with h4 | h4
      · exact plF_none e q h4 (by omega)
      · obtain rfl : q = k := by omega
        omega
theorem way_at (h : Nat) (hj : j < 16) : ∃ q, q < 16 ∧ (h + q) % 16 = j := ⟨(j + 16 - h % 16) % 16, by omega, by omega⟩
theorem way_one {q m : Nat} (hq : q < 16) (hm : m < 16) (e : (h + q) % 16 = (h + m) % 16) : q = m := by omega
theorem putD_other (hi : j ≠ i) : putD f i a b p (dAt j) = f (dAt j) ∧ putD f i a b p (dAt j + 8) = f (dAt j + 8) ∧ putD f i a b p (dAt j + 16) = f (dAt j + 16) := by
  unfold putD dAt
  refine ⟨?_, ?_, ?_⟩ <;> rw [if_neg (by omega), if_neg (by omega), if_neg (by omega)]
theorem putD_own : putD f i a b p (dAt i) = a ∧ putD f i a b p (dAt i + 8) = b ∧ putD f i a b p (dAt i + 16) = p := by
  unfold putD dAt
  refine ⟨?_, ?_, ?_⟩
  · rw [if_neg (by omega), if_neg (by omega), if_pos rfl]
  · rw [if_neg (by omega), if_pos rfl]
  · rw [if_pos rfl]
theorem dropD_other (hi : j ≠ i) : dropD f i (dAt j) = f (dAt j) ∧ dropD f i (dAt j + 8) = f (dAt j + 8) ∧ dropD f i (dAt j + 16) = f (dAt j + 16) := by
  unfold dropD dAt
  refine ⟨?_, ?_, ?_⟩ <;> rw [if_neg (by omega)]
theorem dropD_own : dropD f i (dAt i) = f (dAt i) ∧ dropD f i (dAt i + 8) = f (dAt i + 8) ∧ dropD f i (dAt i + 16) = 1 := by
  unfold dropD dAt
  refine ⟨?_, ?_, ?_⟩
  · rw [if_neg (by omega)]
  · rw [if_neg (by omega)]
  · rw [if_pos rfl]
theorem liveD_put (hj : j ≠ i) : liveD (putD f i a' b' p) a b j ↔ liveD f a b j := by
  obtain ⟨e1, e2, e3⟩ := putD_other (f := f) (a := a') (b := b') (p := p) hj
  unfold liveD
  rw [e1, e2, e3]
theorem liveD_drop (hj : j ≠ i) : liveD (dropD f i) a b j ↔ liveD f a b j := by
  obtain ⟨e1, e2, e3⟩ := dropD_other (f := f) hj
  unfold liveD
  rw [e1, e2, e3]
theorem stand_put (hs : stF f h a b 16 0 = some j) (hi : i ≠ j) (hne : ¬ (a' = a ∧ b' = b)) (hp : 1 < p) : stF (putD f i a' b' p) h a b 16 0 = some j := by
  obtain ⟨m, m1, m2, rfl, m4, m5⟩ := stF_some hs
  refine stF_is m1 m2 ((liveD_put (Ne.symm hi)).2 m4) fun q q1 q2 => ?_
  obtain ⟨s1, s2⟩ := m5 q q1 q2
  by_cases e : (h + q) % 16 = i
  · rw [e]
    obtain ⟨o1, o2, o3⟩ := putD_own (f := f) (i := i) (a := a') (b := b') (p := p)
    exact ⟨by rw [o3]; omega, fun hl => hne ⟨by rw [← o1]; exact hl.2.2.1, by rw [← o2]; exact hl.2.2.2⟩⟩
  · exact ⟨by rw [(putD_other e).2.2]; exact s1, fun hl => s2 ((liveD_put e).1 hl)⟩
theorem stand_drop (hs : stF f h a b 16 0 = some j) (hi : i ≠ j) : stF (dropD f i) h a b 16 0 = some j := by
  obtain ⟨m, m1, m2, rfl, m4, m5⟩ := stF_some hs
  refine stF_is m1 m2 ((liveD_drop (Ne.symm hi)).2 m4) fun q q1 q2 => ?_
  obtain ⟨s1, s2⟩ := m5 q q1 q2
  by_cases e : (h + q) % 16 = i
  · rw [e]
    obtain ⟨o1, o2, o3⟩ := dropD_own (f := f) (i := i)
    exact ⟨by rw [o3]; decide, fun hl => by have := hl.2.1; omega⟩
  · exact ⟨by rw [(dropD_other e).2.2]; exact s1, fun hl => s2 ((liveD_drop e).1 hl)⟩
theorem stand_new (hs : stF f h a b 16 0 = none) (hpl : plF f h 16 0 = some i) (hp : 1 < p) : stF (putD f i a b p) h a b 16 0 = some i := by
  obtain ⟨m, m1, m2, rfl, m4, m5⟩ := plF_some hpl
  obtain ⟨o1, o2, o3⟩ := putD_own (f := f) (i := (h + m) % 16) (a := a) (b := b) (p := p)
  refine stF_is m1 m2 ⟨by omega, by rw [o3]; exact hp, o1, o2⟩ fun q q1 q2 => ?_
  have hne : (h + q) % 16 ≠ (h + m) % 16 := fun e => by have := way_one (by omega) (by omega) e; omega
  have h2 := m5 q q1 q2
  refine ⟨by rw [(putD_other hne).2.2]; omega, fun hl => ?_⟩
  have hl' := (liveD_put hne).1 hl
  have : ∀ r, r ≤ q → ¬ liveD f a b ((h + r) % 16) := fun r => by
    induction r using Nat.strongRecOn with
    | ind r ih =>
      intro hr hlr
      have := stF_is (n := 16) (k := 0) (m := r) (Nat.zero_le _) (by omega) hlr fun s s1 s2 => ⟨by have := m5 s s1 (by omega); omega, ih s s2 (by omega)⟩
      rw [hs] at this
      cases this
  exact this q (Nat.le_refl _) hl'
variable {N : Nat → Nat → Nat → Prop}
def OneH (N : Nat → Nat → Nat → Prop) : Prop := ∀ h h' a b, N h a b → N h' a b → h = h'
def DirOk (N : Nat → Nat → Nat → Prop) (f : Nat → Nat) : Prop := ∀ j, j < 16 → 1 < f (dAt j + 16) → ∃ h a b, N h a b ∧ liveD f a b j ∧ stF f h a b 16 0 = some j
theorem DirOk.one (hN : OneH N) (H : DirOk N f) (hn : N h a b) (hl : liveD f a b j) : stF f h a b 16 0 = some j := by
  obtain ⟨h2, a2, b2, n2, l2, s2⟩ := H j hl.1 hl.2.1
  obtain rfl : a2 = a := l2.2.2.1.symm.trans hl.2.2.1
  obtain rfl : b2 = b := l2.2.2.2.symm.trans hl.2.2.2
  rw [hN _ _ _ _ hn n2]
  exact s2
theorem DirOk.put (H : DirOk N f) (hn : N h a b) (hs : stF f h a b 16 0 = none) (hpl : plF f h 16 0 = some i) (hp : 1 < p) (hN : OneH N) : DirOk N (putD f i a b p) := fun j hj hlj => by
  by_cases e : j = i
  · subst e
    obtain ⟨o1, o2, o3⟩ := putD_own (f := f) (i := j) (a := a) (b := b) (p := p)
    exact ⟨h, a, b, hn, ⟨hj, by rw [o3]; exact hp, o1, o2⟩, stand_new hs hpl hp⟩
  · rw [(putD_other e).2.2] at hlj
    obtain ⟨h2, a2, b2, n2, l2, s2⟩ := H j hj hlj
    refine ⟨h2, a2, b2, n2, (liveD_put e).2 l2, stand_put s2 (Ne.symm e) (fun hx => ?_) hp⟩
    obtain ⟨rfl, rfl⟩ := hx
    rw [hN _ _ _ _ n2 hn, hs] at s2
    cases s2
theorem DirOk.drop (H : DirOk N f) (i : Nat) : DirOk N (dropD f i) := fun j hj hlj => by
  by_cases e : j = i
  · subst e
    rw [(dropD_own (f := f) (i := j)).2.2] at hlj
    exact absurd hlj (by decide)
  · rw [(dropD_other e).2.2] at hlj
    obtain ⟨h2, a2, b2, n2, l2, s2⟩ := H j hj hlj
    exact ⟨h2, a2, b2, n2, (liveD_drop e).2 l2, stand_drop s2 (Ne.symm e)⟩
theorem DirOk.gone (hN : OneH N) (H : DirOk N f) (hn : N h a b) (hs : stF f h a b 16 0 = some i) : stF (dropD f i) h a b 16 0 = none := by
  refine stF_none fun m _ _ _ hl => ?_
  by_cases e : (h + m) % 16 = i
  · rw [e] at hl
    have := hl.2.1
    rw [(dropD_own (f := f) (i := i)).2.2] at this
    exact absurd this (by decide)
  · have := H.one hN hn ((liveD_drop e).1 hl)
    rw [hs] at this
    injection this with this
    exact e this.symm
def fullD (f : Nat → Nat) : Nat → Nat
  | 0 => 0
  | n + 1 => fullD f n + if 1 < f (dAt n + 16) then 1 else 0
theorem fullD_le : ∀ n, fullD f n ≤ n
  | 0 => Nat.le_refl _
  | n + 1 => by have := fullD_le n; unfold fullD; split <;> omega
theorem fullD_all (h : ∀ j, j < n → 1 < f (dAt j + 16)) : fullD f n = n := by
  induction n with
  | zero => rfl
  | succ n ih =>
    unfold fullD
    rw [ih fun j hj => h j (by omega), if_pos (h n (by omega))]
theorem fullD_congr (h : ∀ j, j < n → f (dAt j + 16) = g (dAt j + 16)) : fullD f n = fullD g n := by
  induction n with
  | zero => rfl
  | succ n ih =>
    unfold fullD
    rw [ih fun j hj => h j (by omega), h n (by omega)]
theorem fullD_put (hi : i < n) (h0 : f (dAt i + 16) < 2) (hp : 1 < p) : fullD (putD f i a b p) n = fullD f n + 1 := by
  induction n with
  | zero => omega
  | succ n ih =>
    unfold fullD
    by_cases e : i = n
    · subst e
      rw [fullD_congr (f := putD f i a b p) (g := f) fun j hj => (putD_other (by omega)).2.2, putD_own.2.2, if_pos hp, if_neg (by omega)]
    · rw [ih (by omega), (putD_other (j := n) (i := i) (by omega)).2.2]
      omega
theorem fullD_drop (hi : i < n) (h0 : 1 < f (dAt i + 16)) : fullD (dropD f i) n + 1 = fullD f n := by
  induction n with
  | zero => omega
  | succ n ih =>
    unfold fullD
    by_cases e : i = n
    · subst e
      rw [fullD_congr (f := dropD f i) (g := f) fun j hj => (dropD_other (by omega)).2.2, dropD_own.2.2, if_neg (by decide), if_pos h0]
    · have := ih (by omega)
      rw [(dropD_other (j := n) (i := i) (by omega)).2.2]
      omega
theorem plF_room (h : Nat) (hf : fullD f 16 < 16) : ∃ i, plF f h 16 0 = some i := by
  cases e : plF f h 16 0 with
  | some i => exact ⟨i, rfl⟩
  | none =>
    have h2 := plF_none e
    have : fullD f 16 = 16 := fullD_all fun j hj => by
      obtain ⟨q, hq, rfl⟩ := way_at h hj
      exact h2 q (Nat.zero_le _) (by omega)
    omega
theorem plF_full (h : Nat) (hf : ∀ j, j < 16 → 1 < f (dAt j + 16)) : plF f h 16 0 = none := by
  cases e : plF f h 16 0 with
  | none => rfl
  | some i =>
    obtain ⟨m, _, m2, rfl, m4, _⟩ := plF_some e
    have := hf ((h + m) % 16) (by omega)
    omega
theorem fullD_is (hf : fullD f 16 = 16) : ∀ j, j < 16 → 1 < f (dAt j + 16) := fun j hj => by
  rcases Nat.lt_or_ge 1 (f (dAt j + 16)) with h | h
  · exact h
  · have := fullD_put (f := f) (n := 16) (i := j) (a := 0) (b := 0) (p := 2) hj (by omega) (by decide)
    have := fullD_le (f := putD f j 0 0 2) 16
    omega
end
end Go.Proofs.Ytkkkgikmeiocaaa
namespace Go.Proofs.Ytkkkgikmeiocaaa
open Go.ChangeShapes Go.WideShapes Go.ChangeAt Go.RowKit Go.Deep
set_option maxRecDepth 100000
theorem cells_deed13 : Try.prog.cellsOf 47 = 3 := by kernel_rfl
theorem cells_bool13 : Try.prog.cellsOf 4 = 1 := by kernel_rfl
theorem cells_str13 : Try.prog.cellsOf 9 = 1 := by kernel_rfl
theorem cells_u64_13 : Try.prog.cellsOf 31 = 1 := by kernel_rfl
structure NamesAt (w : World) (la : Option Addr) (n : Nat) (X : Nat → Bool) (S : Nat → ByteArray) (O : Nat → Nat) : Prop where
  lt : ∀ i, (S i).size ≤ maxLen ∧ O i < 18446744073709551616
  cells : 0 < n → ∃ b off, la = some ⟨b, off, none⟩ ∧ b < w.heap.size ∧ ∀ i, i < n → w.cell? ⟨b, off + i * 3, none⟩ = some (.bool (X i)) ∧ w.cell? ⟨b, off + i * 3 + 1, none⟩ = some (.string (S i)) ∧ w.cell? ⟨b, off + i * 3 + 2, none⟩ = some (.int .u64 (O i : Nat))
theorem NamesAt.later {w w' : World} {la : Option Addr} {n : Nat} {X : Nat → Bool} {S : Nat → ByteArray} {O : Nat → Nat} (h : NamesAt w la n X S O) (hg : w.grownBy w' none) : NamesAt w' la n X S O where
  lt := h.lt
  cells := fun hn => by
    obtain ⟨b, off, h1, h2, h3⟩ := h.cells hn
    refine ⟨b, off, h1, Nat.lt_of_lt_of_le h2 hg.size, fun i hi => ?_⟩
    have hb := hg.block b h2 (by simp)
    obtain ⟨c0, c1, c2⟩ := h3 i hi
    exact ⟨(World.cell?_of_block (w := w) (a := ⟨b, off + i * 3, none⟩) hb).trans c0, (World.cell?_of_block (w := w) (a := ⟨b, off + i * 3 + 1, none⟩) hb).trans c1, (World.cell?_of_block (w := w) (a := ⟨b, off + i * 3 + 2, none⟩) hb).trans c2⟩
section
variable {H : Type} {enc : TypeId × Value → H} {w : World}
theorem plain_spot13 {a : Addr} {v : Value} (h : w.cell? (a.add 0) = some v) : ∃ b off, a = ⟨b, off, none⟩ ∧ b < w.heap.size := by
  obtain ⟨b, off, spot⟩ := a
  have ho : (⟨b, off, spot⟩ : Addr).add 0 = ⟨b, off, spot⟩ := rfl
  rw [ho] at h
  have hb : b < w.heap.size := by
    rcases Nat.lt_or_ge b w.heap.size with h' | h'
    · exact h'
    · simp [World.cell?, Array.getElem?_eq_none h'] at h
  rcases spot with _ | s
  · exact ⟨b, off, rfl, hb⟩
  · exfalso
    unfold World.cell? at h
    simp only at h
    split at h <;> simp at h
set_option maxRecDepth 100000 in
theorem deed13_fields {base : Nat} {sp : Nat → Bool} {held : Bool} {n : Nat} {cs : List Value} {x : DataW H × List MemPlace} (h : DataW.trod enc Try.prog w base sp held n 47 cs = some x) :
    ∃ (a : Bool) (s : ByteArray) (c : Nat), cs = [.bool a, .string s, .int .u64 c] ∧ s.size ≤ maxLen ∧ c < 18446744073709551616 := by
  obtain ⟨xs, k, _, _, hcl, hxl, hf⟩ := DataW.trod_struct Try.underlying47 h
  rw [cells_deed13] at hcl
  match xs, hxl, cs, hcl with
  | [y0, y1, y2], _, [v0, v1, v2], _ =>
    have g0 := hf 0 _ rfl
    have g1 := hf 1 _ rfl
    have g2 := hf 2 _ rfl
    simp [cells_bool13, cells_str13, cells_u64_13] at g0 g1 g2
    obtain ⟨k0, e0, _⟩ := DataW.trod_bool Try.underlying4 g0
    obtain ⟨k1, e1, _, w1⟩ := DataW.trod_string Try.underlying9 g1
    obtain ⟨k2, e2, _, w2⟩ := DataW.trod_int Try.underlying31 g2
    simp only [List.cons.injEq, and_true] at e0 e1 e2
    have b2 := bounds_u64 w2
    obtain ⟨z, rfl⟩ := Int.eq_ofNat_of_zero_le b2.1
    exact ⟨k0, k1, z, by rw [e0, e1, e2], w1, by omega⟩
theorem open_deed13 {r : Reach} {b0 : Nat} {v : Value} {d : DataW H} {p : List MemPlace} (hv : Value.okWide Try.prog w r b0 47 v) (h : DataW.Trod enc Try.prog w 0 (fun _ => true) true 47 v d p) :
    ∃ (a : Bool) (s : ByteArray) (c : Nat), v = .agg #[.bool a, .string s, .int .u64 c] ∧ s.size ≤ maxLen ∧ c < 18446744073709551616 := by
  obtain ⟨v0, v1, v2, y0, y1, y2, n, rfl, _, _, t0, t1, t2⟩ := Joins.open_agg3 Try.underlying47 (by kernel_rfl) cells_deed13 hv h
  obtain ⟨k0, e0, _⟩ := DataW.trod_bool Try.underlying4 t0
  obtain ⟨k1, e1, _, w1⟩ := DataW.trod_string Try.underlying9 t1
  obtain ⟨k2, e2, _, w2⟩ := DataW.trod_int Try.underlying31 t2
  simp only [List.cons.injEq, and_true] at e0 e1 e2
  have b2 := bounds_u64 w2
  obtain ⟨z, rfl⟩ := Int.eq_ofNat_of_zero_le b2.1
  exact ⟨k0, k1, z, by rw [e0, e1, e2], w1, by omega⟩
theorem open_names {r : Reach} {b0 : Nat} {v : Value} {d : DataW H} {p : List MemPlace} (hv : Value.okWide Try.prog w r b0 23 v) (h : DataW.Trod enc Try.prog w 0 (fun _ => true) true 23 v d p) :
    ∃ la n c X S O, v = .slice la n c ∧ n ≤ c ∧ n ≤ maxLen ∧ NamesAt w la n X S O := by
  obtain ⟨a0, l0, c0, rfl⟩ := okWide_slice Try.underlying23 hv
  obtain ⟨fuel, hf⟩ := h
  rcases open_slice Try.underlying23 hf with ⟨h0, _⟩ | ⟨a, len, cap, m, n, D, Pl, hcs, _, hl, hm, hmeq, hx, hall⟩
  · simp [Value.cells] at h0
    obtain ⟨rfl, rfl, rfl⟩ := h0
    exact ⟨none, 0, 0, fun _ => false, fun _ => ByteArray.empty, fun _ => 0, rfl, Nat.le_refl _, Nat.zero_le _, ⟨fun _ => ⟨by decide, by decide⟩, fun h => by omega⟩⟩
  · simp [Value.cells] at hcs
    obtain ⟨rfl, rfl, rfl⟩ := hcs
    simp only [if_true] at hmeq
    subst hmeq
    have key : ∀ i, i < l0 → ∃ q : Bool × ByteArray × Nat, (w.cell? (a.add (i * 3)) = some (.bool q.1) ∧ w.cell? (a.add (i * 3 + 1)) = some (.string q.2.1) ∧ w.cell? (a.add (i * 3 + 2)) = some (.int .u64 (q.2.2 : Nat))) ∧ q.2.1.size ≤ maxLen ∧ q.2.2 < 18446744073709551616 := by
      intro i hi
      obtain ⟨cs, h1, h2⟩ := hall i (by omega)
      rw [cells_deed13] at h1
      obtain ⟨_, hlen, hcell⟩ := World.cells?_some h1
      obtain ⟨x, y, z, rfl, hy, hz⟩ := deed13_fields h2
      have e0 := hcell 0 (by omega)
      have e1 := hcell 1 (by omega)
      have e2 := hcell 2 (by omega)
      rw [add_add] at e0 e1 e2
      exact ⟨(x, y, z), ⟨by simpa using e0, by simpa using e1, by simpa using e2⟩, hy, hz⟩
    obtain ⟨q, hq⟩ := choose_lt (α := Bool × ByteArray × Nat) key
    refine ⟨some a, l0, m, fun i => (q i).1, fun i => if i < l0 then (q i).2.1 else ByteArray.empty, fun i => if i < l0 then (q i).2.2 else 0, rfl, hl, Nat.le_trans hl hm, ⟨fun i => ?_, fun hn => ?_⟩⟩
    · by_cases hi : i < l0
      · simp only [hi, if_true]
        exact (hq i hi).2
      · simp only [hi, if_false]
        exact ⟨by decide, by decide⟩
    · obtain ⟨b, off, rfl, hb⟩ := plain_spot13 (hq 0 hn).1.1
      have hadd : ∀ j, (⟨b, off, none⟩ : Addr).add j = ⟨b, off + j, none⟩ := fun j => by unfold Addr.add; split <;> simp_all
      refine ⟨b, off, rfl, hb, fun i hi => ?_⟩
      obtain ⟨⟨c0, c1, c2⟩, _⟩ := hq i hi
      rw [hadd] at c0 c1 c2
      simp only [hi, if_true]
      exact ⟨c0, by rw [Nat.add_assoc]; exact c1, by rw [Nat.add_assoc]; exact c2⟩
end
end Go.Proofs.Ytkkkgikmeiocaaa
namespace Go.Proofs.Ytkkkgikmeiocaaa
open Go.RowKit
set_option maxRecDepth 100000
theorem wrap_range (x : Int) : 0 ≤ IntKind.u64.wrap x ∧ IntKind.u64.wrap x < 18446744073709551616 := by rw [IntKind.wrap_u64]; omega
theorem hash_range (s : ByteArray) : ∀ k, k ≤ s.size → 0 ≤ hashTo s k ∧ hashTo s k < 18446744073709551616
  | 0, _ => by rw [hash_zero]; decide
  | k + 1, h => by rw [hash_snoc s k h]; exact wrap_range _
def hN (s : ByteArray) : Nat := (hashTo s s.size).toNat
def hD (s : ByteArray) : Nat := hN s % 16
theorem hN_is (s : ByteArray) : hashTo s s.size = (hN s : Nat) ∧ hN s < 18446744073709551616 := by
  have h := hash_range s s.size (Nat.le_refl _)
  unfold hN
  omega
def nmOk (s : ByteArray) : Prop := 1 ≤ s.size ∧ s.size ≤ 15
instance (s : ByteArray) : Decidable (nmOk s) := by unfold nmOk; infer_instance
def loD (s : ByteArray) : Nat := if nmOk s then loS s else 0
def hiD (s : ByteArray) : Nat := if nmOk s then hiS s else 0
theorem loD_lt (s : ByteArray) : loD s < 18446744073709551616 ∧ hiD s < 18446744073709551616 := by
  unfold loD hiD
  by_cases h : nmOk s
  · rw [if_pos h, if_pos h]; exact ⟨loS_lt s, hiS_lt s h.2⟩
  · rw [if_neg h, if_neg h]; decide
theorem nm_one {s t : ByteArray} (hs : nmOk s) (ht : nmOk t) (e1 : loD s = loD t) (e2 : hiD s = hiD t) : s = t := by
  unfold loD at e1
  unfold hiD at e2
  rw [if_pos hs, if_pos ht] at e1 e2
  have h1 := byte_first s (by have := hs.2; omega)
  have h2 := byte_first t (by have := ht.2; omega)
  rw [e1, e2, h2] at h1
  have h3 := str_of s
  rw [e1, e2, ← h1, str_of] at h3
  exact h3.symm
def stN (f : Nat → Nat) (s : ByteArray) : Option Nat := if nmOk s then stF f (hD s) (loD s) (hiD s) 16 0 else none
def plN (f : Nat → Nat) (s : ByteArray) : Option Nat := plF f (hD s) 16 0
def optD (o : Option Nat) : Int := match o with | some i => (i : Int) | none => -1
def wayK (h n : Nat) : List Nat := (List.range n).map fun k => (h + k) % 16
def wayL (h : Nat) : List Nat := wayK h 16
theorem wayK_snoc (h n : Nat) : wayK h (n + 1) = wayK h n ++ [(h + n) % 16] := by unfold wayK; rw [List.range_succ, List.map_append]; rfl
theorem wayK_len (h n : Nat) : (wayK h n).length = n := by simp [wayK]
theorem wayL_at {h k : Nat} (hk : k < 16) : (wayL h).getD k 0 = (h + k) % 16 := by
  unfold wayL wayK
  rw [List.getD_eq_getElem?_getD, List.getElem?_map, List.getElem?_range hk]
  rfl
theorem wayL_len (h : Nat) : (wayL h).length = 16 := wayK_len h 16
theorem rhash13 (s : ByteArray) (hs : s.size ≤ maxLen) (w : World) : Calls Try.prog 62 #[.string s] w fun e w' => e = .returned (.int .u64 (hN s : Nat)) ∧ w = w' := by
  have := rhash_any s (by unfold maxLen at hs; omega) w
  rw [(hN_is s).1] at this
  exact this
theorem rpack13 (s : ByteArray) (hs : s.size ≤ maxLen) (w : World) : Calls Try.prog 29 #[.string s] w fun e w' => e = .returned (.tuple #[.agg #[.int .u64 (loD s : Nat), .int .u64 (hiD s : Nat)], .bool (decide (nmOk s))]) ∧ w.grownBy w' none := by
  unfold loD hiD
  by_cases h : nmOk s
  · rw [if_pos h, if_pos h, decide_eq_true h]
    exact (rpack_any s h.1 h.2 w).mono fun e w' ⟨h1, h2⟩ => ⟨h1, below_grown h2⟩
  · rw [if_neg h, if_neg h, decide_eq_false h]
    exact (rpack_not s (by unfold nmOk at h; omega) (by unfold maxLen at hs; omega) w).mono fun e w' ⟨h1, h2⟩ => ⟨h1, below_grown h2⟩
theorem pack13 (s : ByteArray) (hs : s.size ≤ maxLen) (w : World) : Calls Try.prog 35 #[.string s] w fun e w' => e = .returned (.tuple #[.agg #[.int .u64 (loD s : Nat), .int .u64 (hiD s : Nat)], .bool (decide (nmOk s))]) ∧ w.grownBy w' none := by
  unfold loD hiD
  by_cases h : nmOk s
  · rw [if_pos h, if_pos h, decide_eq_true h]
    exact (pack_yes s h.1 h.2 w).mono fun e w' ⟨h1, h2⟩ => ⟨h1, below_grown h2⟩
  · rw [if_neg h, if_neg h, decide_eq_false h]
    exact (pack_not s (by unfold nmOk at h; omega) (by unfold maxLen at hs; omega) w).mono fun e w' ⟨h1, h2⟩ => ⟨h1, below_grown h2⟩
theorem names13 (a b : Nat) (ha : a < 18446744073709551616) (hb : b < 18446744073709551616) : ∃ (s : ByteArray) (ok : Bool), (ok = true → nmOk s ∧ loD s = a ∧ hiD s = b) ∧ (ok = false → ∀ s, nmOk s → ¬ (loD s = a ∧ hiD s = b)) ∧ s.size ≤ 15 ∧
    (∀ w : World, Calls Try.prog 33 #[.agg #[.int .u64 a, .int .u64 b]] w fun e w' => e = .returned (.tuple #[.string s, .bool ok]) ∧ w.grownBy w' none) ∧
    (∀ w : World, Calls Try.prog 34 #[.agg #[.int .u64 a, .int .u64 b]] w fun e w' => e = .returned (.tuple #[.string s, .bool ok]) ∧ w.grownBy w' none) := by
  by_cases hs : ∃ s, nmOk s ∧ loD s = a ∧ hiD s = b
  · obtain ⟨s, h, rfl, rfl⟩ := hs
    have e1 : loD s = loS s := if_pos h
    have e2 : hiD s = hiS s := if_pos h
    rw [e1, e2]
    exact ⟨s, true, fun _ => ⟨h, e1, e2⟩, fun h => (by cases h), h.2, fun w => (name_yes s h.1 h.2 w).mono fun e w' ⟨h1, h2⟩ => ⟨h1, below_grown h2⟩, fun w => (rname_yes s h.1 h.2 w).mono fun e w' ⟨h1, h2⟩ => ⟨h1, below_grown h2⟩⟩
  · have hno : ∀ s : ByteArray, 1 ≤ s.size → s.size ≤ 15 → ¬ (loS s = a ∧ hiS s = b) := fun s x y h => hs ⟨s, ⟨x, y⟩, by unfold loD; rw [if_pos ⟨x, y⟩]; exact h.1, by unfold hiD; rw [if_pos ⟨x, y⟩]; exact h.2⟩
    exact ⟨ByteArray.empty, false, fun h => (by cases h), fun _ s h e => hs ⟨s, h, e⟩, by decide, fun w => (name_no a b ha hb hno w).mono fun e w' ⟨h1, h2⟩ => ⟨h1, below_grown h2⟩, fun w => (rname_no a b ha hb hno w).mono fun e w' ⟨h1, h2⟩ => ⟨h1, below_grown h2⟩⟩
theorem rat13_any (i : Nat) (hi : i < 1000000) (w : World) : Calls Try.prog 27 #[.int .i64 (i : Nat)] w fun e w' => e = .returned (.int .u64 (dAt i : Nat)) ∧ w = w' := by
  have e1 : IntKind.u64.wrap (i : Int) = (i : Int) := by rw [IntKind.wrap_u64]; omega
  have e2 : IntKind.u64.wrap (24 * (i : Int)) = ((24 * i : Nat) : Int) := by rw [IntKind.wrap_u64]; omega
  have e3 : IntKind.u64.wrap (3392 + ((24 * i : Nat) : Int)) = ((dAt i : Nat) : Int) := by rw [IntKind.wrap_u64]; unfold dAt; omega
  obtain ⟨d, ed⟩ : ∃ d, dAt i = d := ⟨_, rfl⟩
  obtain ⟨k, ek⟩ : ∃ k, 24 * i = k := ⟨_, rfl⟩
  rw [ed] at e3 ⊢
  rw [ek] at e2 e3
  clear ed ek hi
  go_enter Try.func27, Try.ntmps27
  go_wp2
  go_ret
  exact ⟨rfl, rfl⟩
set_option maxHeartbeats 2000000 in
theorem rway13_any (s : ByteArray) (hs : s.size ≤ maxLen) (w : World) : Calls Try.prog 43 #[.string s] w fun e w' => ∃ v, e = .returned v ∧ OwnI w' w.heap.size v (wayL (hD s)) ∧ w.grownBy w' none := by
  have hh := fun V => rhash13 s hs V
  have hlt := (hN_is s).2
  unfold hD
  obtain ⟨n, en⟩ : ∃ n, hN s = n := ⟨_, rfl⟩
  rw [en] at hh hlt ⊢
  obtain ⟨h, eh⟩ : ∃ h, n % 16 = h := ⟨_, rfl⟩
  have e1 : (n : Int) % 16 = (h : Int) := by omega
  have e1' : (n : Int).tmod 16 = (h : Int) := by rw [Int.tmod_eq_emod_of_nonneg (by omega)]; omega
  have e2 : IntKind.i64.wrap (h : Int) = (h : Int) := by rw [IntKind.wrap_i64]; omega
  have e3 : IntKind.u64.wrap (h : Int) = (h : Int) := by rw [IntKind.wrap_u64]; omega
  rw [eh]
  have hh16 : h < 16 := by omega
  clear en hlt eh
  go_enter Try.func43, Try.ntmps43
  go_wp2_with (first | (go_at_call 62; (with_reducible refine (hh _).mono ?_); rintro e w1 ⟨rfl, rfl⟩))
  clear hh e1 e1' e2 e3
  go_loopw [3, 5] (fun v i wr => ∃ k : Nat, k ≤ 16 ∧ i = .int .i64 k ∧ OwnI wr w.heap.size v (wayK h k) ∧ w.grownBy wr none) (fun _ i _ => 16 - (intOf i).toNat)
  case atStart => exact ⟨0, Nat.zero_le _, rfl, World.ownsRow_nil _ _ _ _, grown_refl _ _⟩
  case round =>
    obtain ⟨k, hk, rfl, hown, hgr⟩ := hrel
    by_cases h1 : k < 16
    · have hl := wayK_len h k
      have hs1 := wayK_snoc h k
      obtain ⟨y, ey⟩ : ∃ y, (h + k) % 16 = y := ⟨_, rfl⟩
      rw [ey] at hs1
      have a1 : IntKind.i64.wrap ((h : Int) + (k : Int)) = ((h + k : Nat) : Int) := by rw [IntKind.wrap_i64]; omega
      have a2 : ((h + k : Nat) : Int) % 16 = (y : Int) := by omega
      have a2' : ((h + k : Nat) : Int).tmod 16 = (y : Int) := by rw [Int.tmod_eq_emod_of_nonneg (by omega)]; omega
      have a3 : IntKind.i64.wrap (y : Int) = (y : Int) := by rw [IntKind.wrap_i64]; omega
      obtain ⟨hk2, ehk⟩ : ∃ q, h + k = q := ⟨_, rfl⟩
      rw [ehk] at a1 a2 a2'
      have HS := Lib.hid hs1
      have HL := Lib.hid hl
      have hk1 : (k : Int) < 16 := by omega
      clear hs1 hl ey ehk
      have hsz1 := hgr.size
      go_wp2_with (first | (at_builtin; go_must (refine wpList_append_int rfl _ _ rfl w.heap.size _ _ rfl hown y rfl (by rw [HL.out]; omega) hsz1 ?_); intro v' w3 hown3 hg3))
      go_roundw
      case rel => exact ⟨k + 1, by omega, by go_num, by rw [HS.out]; exact hown3, grown_step hgr hg3 (fun i hi => .inl (own_int hown hi).1)⟩
      case measure => simp [intOf]; omega
    · obtain rfl : k = 16 := by omega
      obtain ⟨va, vn, vc, hvv⟩ := iv_form hown
      subst hvv
      clear h1
      go_wp2
      go_ret
      exact ⟨_, rfl, hown, hgr⟩
end Go.Proofs.Ytkkkgikmeiocaaa
