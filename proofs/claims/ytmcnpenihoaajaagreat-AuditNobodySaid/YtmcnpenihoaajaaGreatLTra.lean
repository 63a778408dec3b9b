/-
  Texts of one layer, one behind the other: memory, contracts of the functions, and what follows of them.
  Conditions: as each theorem says.
-/
import Derived.Test.YtmcnpenihoaajaaGreatLWoa
import Derived.Test.YtmcnpenihoaajaaGreatLSea
import Derived.Test.YtmcnpenihoaajaaGreatLTaa
import Derived.Sort.Grow
import Derived.Deep.RegionHeld3
import Derived.Laws.AppendOwnNone
import Derived.Laws.StructEq
import Derived.Deep.AppendLies
import Derived.Test.YtmcnpenihoaajaaGreatLTxa
import Derived.Maps.AppendAt
import Derived.Shelf.SlSortCmp.WholeK
import Derived.Test.YtmcnpenihoaajaaGreatLPha
import Derived.Test.YtmcnpenihoaajaaGreatLPhb
set_option linter.unusedVariables false
set_option linter.unusedSimpArgs false
namespace Go.Proofs.YtmcnpenihoaajaaGreat
def TreeN (f rk : Nat → Nat) : Nat → Nat → List Nat → Prop
  | 0, r, l => r = 0 ∧ l = []
  | n + 1, r, l => (r = 0 ∧ l = []) ∨ (r ≠ 0 ∧ ∃ L R, l = L ++ r :: R ∧ (∀ x, x ∈ L → rk x < rk r) ∧ (∀ x, x ∈ R → rk x < rk r) ∧ TreeN f rk n (f (r + 8)) L ∧ TreeN f rk n (f (r + 16)) R)
def TreeOf (f rk : Nat → Nat) (r : Nat) (l : List Nat) : Prop := TreeN f rk l.length r l
section
variable {f g rk : Nat → Nat} {n m r s : Nat} {l L R : List Nat}
theorem TreeN.up : ∀ {n m r : Nat} {l : List Nat}, TreeN f rk n r l → n ≤ m → TreeN f rk m r l
  | 0, 0, r, l, h, _ => h
  | 0, m + 1, r, l, h, _ => Or.inl h
  | n + 1, 0, r, l, h, hm => by omega
  | n + 1, m + 1, r, l, h, hm => by
    rcases h with h | ⟨h0, L, R, e, hL, hR, tL, tR⟩
    · exact Or.inl h
    · exact Or.inr ⟨h0, L, R, e, hL, hR, tL.up (by omega), tR.up (by omega)⟩
theorem TreeN.down : ∀ {n r : Nat} {l : List Nat} (m : Nat), TreeN f rk n r l → l.length ≤ m → TreeN f rk m r l
  | 0, r, l, m, h, _ => h.up (by omega)
  | n + 1, r, l, m, h, hm => by
    rcases h with h | ⟨h0, L, R, e, hL, hR, tL, tR⟩
    · exact TreeN.up (n := 0) h (by omega)
    · subst e
      simp only [List.length_append, List.length_cons] at hm
      obtain ⟨k, rfl⟩ : ∃ k, m = k + 1 := ⟨m - 1, by omega⟩
      exact Or.inr ⟨h0, L, R, rfl, hL, hR, tL.down k (by omega), tR.down k (by omega)⟩
theorem TreeN.of (h : TreeN f rk n r l) : TreeOf f rk r l := h.down _ (by omega)
theorem TreeOf.nil : TreeOf f rk 0 [] := ⟨rfl, rfl⟩
theorem TreeOf.node (h0 : r ≠ 0) (hL : ∀ x, x ∈ L → rk x < rk r) (hR : ∀ x, x ∈ R → rk x < rk r) (tL : TreeOf f rk (f (r + 8)) L) (tR : TreeOf f rk (f (r + 16)) R) : TreeOf f rk r (L ++ r :: R) :=
  TreeN.of (n := L.length + R.length + 1) (Or.inr ⟨h0, L, R, rfl, hL, hR, TreeN.up tL (by omega), TreeN.up tR (by omega)⟩)
theorem TreeOf.cases (h : TreeOf f rk r l) : (r = 0 ∧ l = []) ∨ (r ≠ 0 ∧ ∃ L R, l = L ++ r :: R ∧ (∀ x, x ∈ L → rk x < rk r) ∧ (∀ x, x ∈ R → rk x < rk r) ∧ TreeOf f rk (f (r + 8)) L ∧ TreeOf f rk (f (r + 16)) R) := by
  unfold TreeOf at h
  generalize hn : l.length = n at h
  cases n with
  | zero => exact Or.inl h
  | succ n =>
    rcases h with h | ⟨h0, L, R, e, hL, hR, tL, tR⟩
    · exact Or.inl h
    · exact Or.inr ⟨h0, L, R, e, hL, hR, tL.of, tR.of⟩
theorem TreeOf.zero (h : TreeOf f rk 0 l) : l = [] := by
  rcases h.cases with h | ⟨h0, _⟩
  · exact h.2
  · exact absurd rfl h0
theorem TreeOf.none (h : TreeOf f rk r []) : r = 0 := by
  rcases h.cases with h | ⟨h0, L, R, e, _⟩
  · exact h.1
  · simp at e
theorem TreeOf.some (h : TreeOf f rk r l) (h0 : r ≠ 0) : ∃ L R, l = L ++ r :: R ∧ (∀ x, x ∈ L → rk x < rk r) ∧ (∀ x, x ∈ R → rk x < rk r) ∧ TreeOf f rk (f (r + 8)) L ∧ TreeOf f rk (f (r + 16)) R := by
  rcases h.cases with h | h
  · exact absurd h.1 h0
  · exact h.2
theorem TreeOf.mem (h : TreeOf f rk r l) (h0 : r ≠ 0) : r ∈ l := by
  obtain ⟨L, R, e, _⟩ := h.some h0
  subst e; simp
theorem TreeN.frame : ∀ {n r : Nat} {l : List Nat}, TreeN f rk n r l → (∀ x, x ∈ l → g (x + 8) = f (x + 8) ∧ g (x + 16) = f (x + 16)) → TreeN g rk n r l
  | 0, r, l, h, _ => h
  | n + 1, r, l, h, hg => by
    rcases h with h | ⟨h0, L, R, e, hL, hR, tL, tR⟩
    · exact Or.inl h
    · subst e
      obtain ⟨e8, e16⟩ := hg r (by simp)
      refine Or.inr ⟨h0, L, R, rfl, hL, hR, ?_, ?_⟩
      · rw [e8]; exact tL.frame fun x hx => hg x (by simp [hx])
      · rw [e16]; exact tR.frame fun x hx => hg x (by simp [hx])
theorem TreeOf.frame (h : TreeOf f rk r l) (hg : ∀ x, x ∈ l → g (x + 8) = f (x + 8) ∧ g (x + 16) = f (x + 16)) : TreeOf g rk r l := TreeN.frame h hg
theorem root_split : ∀ {L L' R R' : List Nat} {r s : Nat}, L ++ r :: R = L' ++ s :: R' → (∀ x, x ∈ L → rk x < rk r) → (∀ x, x ∈ R → rk x < rk r) → (∀ x, x ∈ L' → rk x < rk s) → (∀ x, x ∈ R' → rk x < rk s) → L = L' ∧ r = s ∧ R = R'
  | [], [], R, R', r, s, e, _, _, _, _ => by simp only [List.nil_append, List.cons.injEq] at e; exact ⟨rfl, e.1, e.2⟩
  | [], b :: L', R, R', r, s, e, hL, hR, hL', hR' => by
    simp only [List.nil_append, List.cons_append, List.cons.injEq] at e
    obtain ⟨rfl, rfl⟩ := e
    have h1 := hR s (by simp)
    have h2 := hL' r (by simp)
    omega
  | a :: L, [], R, R', r, s, e, hL, hR, hL', hR' => by
    simp only [List.nil_append, List.cons_append, List.cons.injEq] at e
    obtain ⟨rfl, rfl⟩ := e
    have h1 := hR' r (by simp)
    have h2 := hL a (by simp)
    omega
  | a :: L, b :: L', R, R', r, s, e, hL, hR, hL', hR' => by
    simp only [List.cons_append, List.cons.injEq] at e
    obtain ⟨rfl, e⟩ := e
    obtain ⟨h1, h2, h3⟩ := root_split e (fun x hx => hL x (by simp [hx])) hR (fun x hx => hL' x (by simp [hx])) hR'
    exact ⟨by rw [h1], h2, h3⟩
theorem TreeN.same : ∀ {n m r s : Nat} {l : List Nat}, TreeN f rk n r l → TreeN g rk m s l → r = s ∧ ∀ x, x ∈ l → f (x + 8) = g (x + 8) ∧ f (x + 16) = g (x + 16)
  | 0, m, r, s, l, h, k => by
    obtain ⟨rfl, rfl⟩ := h
    exact ⟨(TreeOf.none k.of).symm, by simp⟩
  | n + 1, m, r, s, l, h, k => by
    rcases h with h | ⟨h0, L, R, e, hL, hR, tL, tR⟩
    · obtain ⟨rfl, rfl⟩ := h
      exact ⟨(TreeOf.none k.of).symm, by simp⟩
    · subst e
      rcases TreeOf.cases k.of with k | ⟨k0, L', R', e, kL, kR, uL, uR⟩
      · have := k.2; simp at this
      · obtain ⟨rfl, rfl, rfl⟩ := root_split e hL hR kL kR
        obtain ⟨a1, a2⟩ := tL.same uL
        obtain ⟨b1, b2⟩ := tR.same uR
        refine ⟨rfl, fun x hx => ?_⟩
        simp only [List.mem_append, List.mem_cons] at hx
        rcases hx with hx | hx | hx
        · exact a2 x hx
        · subst hx; exact ⟨a1, b1⟩
        · exact b2 x hx
theorem TreeOf.same (h : TreeOf f rk r l) (k : TreeOf g rk s l) : r = s ∧ ∀ x, x ∈ l → f (x + 8) = g (x + 8) ∧ f (x + 16) = g (x + 16) := TreeN.same h k
theorem TreeOf.carry (h : TreeOf f rk r l) (hg : ∀ x, x ∈ l → g (x + 8) = f (x + 8) ∧ g (x + 16) = f (x + 16)) (hs : s = r) : TreeOf g rk s l := by rw [hs]; exact h.frame hg
end
end Go.Proofs.YtmcnpenihoaajaaGreat
namespace Go.Proofs.YtmcnpenihoaajaaGreat
def keyLt (z : Nat → Nat) (a s o : Nat) : Prop := z a < s ∨ (z a = s ∧ a < o)
instance {z : Nat → Nat} {a s o : Nat} : Decidable (keyLt z a s o) := by unfold keyLt; infer_instance
def blkLt (z : Nat → Nat) (a b : Nat) : Prop := keyLt z a (z b) b
instance {z : Nat → Nat} {a b : Nat} : Decidable (blkLt z a b) := by unfold blkLt; infer_instance
def Rising (z : Nat → Nat) (l : List Nat) : Prop := l.Pairwise (blkLt z)
def insK (z : Nat → Nat) (x : Nat) (l : List Nat) : List Nat := l.takeWhile (fun y => decide (¬ blkLt z x y)) ++ x :: l.dropWhile (fun y => decide (¬ blkLt z x y))
def srtK (z : Nat → Nat) (l : List Nat) : List Nat := l.foldl (fun o x => insK z x o) []
section
variable {z : Nat → Nat} {a b c s o x : Nat} {l k : List Nat}
theorem blkLt.irr : ¬ blkLt z a a := by unfold blkLt keyLt; omega
theorem blkLt.trans (h : blkLt z a b) (k : blkLt z b c) : blkLt z a c := by unfold blkLt keyLt at *; omega
theorem blkLt.anti (h : blkLt z a b) : ¬ blkLt z b a := by unfold blkLt keyLt at *; omega
theorem blkLt.total (h : ¬ blkLt z a b) (hn : a ≠ b) : blkLt z b a := by unfold blkLt keyLt at *; omega
theorem blkLt.ne (h : blkLt z a b) : a ≠ b := by rintro rfl; exact blkLt.irr h
theorem Rising.nodup (h : Rising z l) : l.Nodup := List.Pairwise.imp (fun h => h.ne) h
theorem rising_ext : ∀ {l k : List Nat}, Rising z l → Rising z k → (∀ x, x ∈ l ↔ x ∈ k) → l = k
  | [], [], _, _, _ => rfl
  | [], b :: k, _, _, h => by have := (h b).2 (by simp); simp at this
  | a :: l, [], _, _, h => by have := (h a).1 (by simp); simp at this
  | a :: l, b :: k, hl, hk, h => by
    have hl' := List.pairwise_cons.1 hl
    have hk' := List.pairwise_cons.1 hk
    have hab : a = b := by
      rcases List.mem_cons.1 ((h a).1 (by simp)) with e | e
      · exact e
      · rcases List.mem_cons.1 ((h b).2 (by simp)) with e' | e'
        · exact e'.symm
        · exact absurd (hk'.1 a e) (hl'.1 b e').anti
    subst hab
    rw [rising_ext hl'.2 hk'.2]
    intro x
    have hx := h x
    simp only [List.mem_cons] at hx
    constructor
    · intro hm
      rcases hx.1 (Or.inr hm) with e | e
      · subst e; exact absurd (hl'.1 x hm) blkLt.irr
      · exact e
    · intro hm
      rcases hx.2 (Or.inr hm) with e | e
      · subst e; exact absurd (hk'.1 x hm) blkLt.irr
      · exact e
theorem insK_perm : (insK z x l).Perm (x :: l) := by
  unfold insK
  refine List.perm_middle.trans ?_
  rw [List.takeWhile_append_dropWhile]
theorem insK_mem : a ∈ insK z x l ↔ a = x ∨ a ∈ l := by rw [insK_perm.mem_iff]; simp
theorem insK_cons : insK z x (a :: l) = if blkLt z x a then x :: a :: l else a :: insK z x l := by
  unfold insK
  by_cases h : blkLt z x a <;> simp [List.takeWhile_cons, List.dropWhile_cons, h]
theorem insK_rising : ∀ {l : List Nat}, Rising z l → x ∉ l → Rising z (insK z x l)
  | [], _, _ => by simp [insK, Rising]
  | a :: l, h, hn => by
    have h' := List.pairwise_cons.1 h
    rw [insK_cons]
    by_cases c : blkLt z x a
    · rw [if_pos c]
      refine List.pairwise_cons.2 ⟨?_, h⟩
      intro y hy
      rcases List.mem_cons.1 hy with e | e
      · subst e; exact c
      · exact c.trans (h'.1 y e)
    · rw [if_neg c]
      refine List.pairwise_cons.2 ⟨?_, insK_rising h'.2 fun hm => hn (by simp [hm])⟩
      intro y hy
      rcases insK_mem.1 hy with e | e
      · subst e; exact blkLt.total c (by intro e; apply hn; simp [e])
      · exact h'.1 y e
theorem srtK_foldl_perm : ∀ {l o : List Nat}, (l.foldl (fun o x => insK z x o) o).Perm (l ++ o)
  | [], o => List.Perm.refl _
  | x :: l, o => by
    simp only [List.foldl_cons, List.cons_append]
    refine (srtK_foldl_perm (l := l)).trans ?_
    refine (List.Perm.append_left l insK_perm).trans ?_
    exact List.perm_middle
theorem srtK_perm : (srtK z l).Perm l := by
  have := srtK_foldl_perm (z := z) (l := l) (o := [])
  simpa [srtK] using this
theorem srtK_mem : a ∈ srtK z l ↔ a ∈ l := srtK_perm.mem_iff
theorem srtK_length : (srtK z l).length = l.length := srtK_perm.length_eq
theorem srtK_rising_go : ∀ {l o : List Nat}, Rising z o → (∀ x, x ∈ l → x ∉ o) → l.Nodup → Rising z (l.foldl (fun o x => insK z x o) o)
  | [], o, h, _, _ => h
  | x :: l, o, h, hn, hd => by
    have hd' := List.nodup_cons.1 hd
    simp only [List.foldl_cons]
    refine srtK_rising_go (insK_rising h (hn x (by simp))) ?_ hd'.2
    intro y hy hm
    rcases insK_mem.1 hm with e | e
    · subst e; exact hd'.1 hy
    · exact hn y (by simp [hy]) e
theorem srtK_rising (h : l.Nodup) : Rising z (srtK z l) := srtK_rising_go (by simp [Rising]) (by simp) h
theorem srtK_ext (h : Rising z k) (hn : l.Nodup) (hm : ∀ x, x ∈ l ↔ x ∈ k) : srtK z l = k :=
  rising_ext (srtK_rising hn) h fun x => by rw [srtK_mem]; exact hm x
theorem Rising.congr {y : Nat → Nat} (h : Rising z l) (hy : ∀ a, a ∈ l → y a = z a) : Rising y l := by
  unfold Rising at *
  refine List.Pairwise.imp_of_mem ?_ h
  intro a b ha hb hab
  unfold blkLt keyLt at *
  rw [hy a ha, hy b hb]; exact hab
theorem srtK_congr {y : Nat → Nat} (hn : l.Nodup) (h : ∀ a, a ∈ l → y a = z a) : srtK y l = srtK z l :=
  srtK_ext ((srtK_rising hn).congr fun a ha => h a (srtK_mem.1 ha)) hn fun x => srtK_mem.symm
theorem Rising.filter (h : Rising z l) (p : Nat → Bool) : Rising z (l.filter p) := List.Pairwise.filter _ h
theorem Rising.ahead {r : Nat} (h : Rising z (l ++ r :: k)) : (∀ y, y ∈ l → blkLt z y r) ∧ (∀ y, y ∈ k → blkLt z r y) ∧ Rising z l ∧ Rising z k := by
  obtain ⟨h1, h2, h3⟩ := List.pairwise_append.1 h
  have h2' := List.pairwise_cons.1 h2
  exact ⟨fun y hy => h3 y hy r (by simp), h2'.1, h1, h2'.2⟩
end
end Go.Proofs.YtmcnpenihoaajaaGreat
namespace Go.Proofs.YtmcnpenihoaajaaGreat
open Go.RowKit
structure WordsAt (w : World) (la : Option Addr) (l : List Nat) : Prop where
  cells : 0 < l.length → ∃ b off, la = some ⟨b, off, none⟩ ∧ b < w.heap.size ∧ ∀ i, i < l.length → w.cell? ⟨b, off + i, none⟩ = some (.int .u64 (l.getD i 0 : Nat))
section
variable {w w' : World} {la : Option Addr} {l : List Nat} {base : Nat} {v : Value}
theorem WordsAt.later (h : WordsAt w la l) (hg : w.grownBy w' none) : WordsAt w' la l where
  cells := fun hn => by
    obtain ⟨b, off, h1, h2, h3⟩ := h.cells hn
    exact ⟨b, off, h1, Nat.lt_of_lt_of_le h2 hg.size, fun i hi => (World.cell?_of_block (w := w) (a := ⟨b, off + i, none⟩) (hg.block b h2 (by simp))).trans (h3 i hi)⟩
theorem WordsAt.kept {g : Nat} (h : WordsAt w la l) (hg : w.grownBy w' (some g)) (hne : ∀ a, la = some a → a.block ≠ g) : WordsAt w' la l where
  cells := fun hn => by
    obtain ⟨b, off, h1, h2, h3⟩ := h.cells hn
    refine ⟨b, off, h1, Nat.lt_of_lt_of_le h2 hg.size, fun i hi => (World.cell?_of_block (w := w) (a := ⟨b, off + i, none⟩) (hg.block b h2 ?_)).trans (h3 i hi)⟩
    have := hne _ h1
    simpa using this
theorem OwnW.lie (h : OwnW w base v l) : ∃ la c, v = .slice la l.length c ∧ WordsAt w la l := by
  rcases h.2 with ⟨h1, h2⟩ | ⟨g, cap, cur, hv, hb⟩
  · exact ⟨none, 0, by rw [h1, h2], ⟨fun hn => by omega⟩⟩
  · subst hv
    refine ⟨_, _, rfl, ⟨fun _ => ⟨g, 0, rfl, (h.lt g rfl).2, fun i hi => ?_⟩⟩⟩
    rw [Nat.zero_add]
    exact OwnW.at_ h i hi
theorem WordsAt.take (h : WordsAt w la l) (n : Nat) : WordsAt w la (l.take n) where
  cells := fun hn => by
    rw [List.length_take] at hn
    obtain ⟨b, off, h1, h2, h3⟩ := h.cells (by omega)
    refine ⟨b, off, h1, h2, fun i hi => ?_⟩
    rw [List.length_take] at hi
    rw [h3 i (by omega), List.getD_eq_getElem?_getD, List.getD_eq_getElem?_getD, List.getElem?_take, if_pos (by omega)]
theorem WordsAt.drop {b off : Nat} (h : WordsAt w (some ⟨b, off, none⟩) l) (n : Nat) : WordsAt w (some ⟨b, off + n, none⟩) (l.drop n) where
  cells := fun hn => by
    rw [List.length_drop] at hn
    obtain ⟨b', off', h1, h2, h3⟩ := h.cells (by omega)
    injection h1 with h1
    injection h1 with e1 e2
    subst e1 e2
    refine ⟨b, off + n, rfl, h2, fun i hi => ?_⟩
    rw [List.length_drop] at hi
    have := h3 (n + i) (by omega)
    rw [List.getD_eq_getElem?_getD, List.getElem?_drop, ← List.getD_eq_getElem?_getD]
    rw [Nat.add_assoc]; exact this
end
end Go.Proofs.YtmcnpenihoaajaaGreat
namespace Go.Proofs.YtmcnpenihoaajaaGreat
open Go.RowKit
def cmpN (a b : Nat) : Int := if a < b then -1 else if b < a then 1 else 0
def cmpK (s o s' o' : Nat) : Int := if cmpN s s' = 0 then cmpN o o' else cmpN s s'
theorem cmpN_lt {a b : Nat} (h : a < b) : cmpN a b = -1 := if_pos h
theorem cmpN_gt {a b : Nat} (h : b < a) : cmpN a b = 1 := by unfold cmpN; rw [if_neg (by omega), if_pos h]
theorem cmpN_eq (a : Nat) : cmpN a a = 0 := by unfold cmpN; rw [if_neg (by omega), if_neg (by omega)]
theorem cmpN_three (a b : Nat) : (a < b ∧ cmpN a b = -1) ∨ (b < a ∧ cmpN a b = 1) ∨ (a = b ∧ cmpN a b = 0) := by
  rcases Nat.lt_trichotomy a b with h | h | h
  · exact .inl ⟨h, cmpN_lt h⟩
  · subst h; exact .inr (.inr ⟨rfl, cmpN_eq a⟩)
  · exact .inr (.inl ⟨h, cmpN_gt h⟩)
theorem isnan_any (x : Nat) (w : World) : Calls Tryz.prog 203 #[.int .u64 x] w fun e w' => e = .returned (.bool false) ∧ w = w' := by
  go_enter Tryz.func203, Tryz.ntmps203
  go_wp2
  go_ret
  exact ⟨rfl, rfl⟩
theorem compare_u64 (x y : Nat) (w : World) : Calls Tryz.prog 165 #[.int .u64 x, .int .u64 y] w fun e w' => e = .returned (.int .i64 (cmpN x y)) ∧ w = w' := by
  have hn := fun x => isnan_any x w
  rcases cmpN_three x y with ⟨h, e⟩ | ⟨h, e⟩ | ⟨h, e⟩
  · rw [e]
    have h1 : (x : Int) < (y : Int) := by omega
    go_enter Tryz.func165, Tryz.ntmps165
    go_wp2_with (go_at_call 203; (with_reducible refine (hn _).mono ?_); rintro e w1 ⟨rfl, rfl⟩)
    go_ret
    exact ⟨rfl, rfl⟩
  · rw [e]
    have h1 : ¬ (x : Int) < (y : Int) := by omega
    have h2 : (y : Int) < (x : Int) := by omega
    go_enter Tryz.func165, Tryz.ntmps165
    go_wp2_with (go_at_call 203; (with_reducible refine (hn _).mono ?_); rintro e w1 ⟨rfl, rfl⟩)
    go_ret
    exact ⟨rfl, rfl⟩
  · rw [e]
    subst h
    go_enter Tryz.func165, Tryz.ntmps165
    go_wp2_with (go_at_call 203; (with_reducible refine (hn _).mono ?_); rintro e w1 ⟨rfl, rfl⟩)
    go_ret
    exact ⟨rfl, rfl⟩
theorem or_two (p q : Int) (b c : Nat) (w : World) (h0 : w.cell? ⟨b, 0, none⟩ = some (.int .i64 p)) (h1 : w.cell? ⟨b, 1, none⟩ = some (.int .i64 q)) : Calls Tryz.prog 164 #[.slice (some ⟨b, 0, none⟩) 2 c] w fun e w' => e = .returned (.int .i64 (if p = 0 then q else p)) ∧ w = w' := by
  go_enter Tryz.func164, Tryz.ntmps164
  go_wp2
  go_loop [8] (fun i => ∃ k : Nat, k ≤ 2 ∧ i = .int .i64 k ∧ (1 ≤ k → p = 0) ∧ (k = 2 → q = 0)) (fun i => 2 - (intOf i).toNat)
  case atStart => exact ⟨0, by omega, rfl, by omega, by omega⟩
  case round =>
    obtain ⟨k, hk, rfl, hp, hq⟩ := hrel
    rcases k with _ | _ | _ | k
    · by_cases h : p = 0
      · subst h
        go_wp2
        go_round
        case rel => exact ⟨1, by omega, by go_num, by simp, by omega⟩
        case measure => simp [intOf]
      · go_wp2
        go_ret
        exact ⟨rfl, rfl⟩
    · obtain rfl := hp (by omega)
      by_cases h : q = 0
      · subst h
        go_wp2
        go_round
        case rel => exact ⟨2, by omega, by go_num, by simp, by simp⟩
        case measure => simp [intOf]
      · go_wp2
        go_ret
        exact ⟨by simp, rfl⟩
    · obtain rfl := hp (by omega)
      obtain rfl := hq (by omega)
      go_wp2
      go_ret
      exact ⟨by simp, rfl⟩
    · omega
theorem two_held {w w' : World} {x y : Value} {t : TypeId} {b : Nat} (h : w.heap[b]? = some (.cells #[x, y] t (0, 0))) (hg : w.grownBy w' none) : w'.heap[b]? = some (.cells #[x, y] t (0, 0)) := (hg.block _ (lt_of_block h) (by simp)).trans h
set_option maxHeartbeats 1000000 in
theorem tcompare_any (s o s' o' : Nat) (w : World) : Calls Tryz.prog 124 #[.agg #[.int .u64 s, .int .u64 o], .agg #[.int .u64 s', .int .u64 o']] w fun e w' => e = .returned (.int .i64 (cmpK s o s' o')) ∧ ∃ q os, w' = Go.Sort.grow (w.drewN q) os := by
  have hc := fun x y w => compare_u64 x y w
  have ho := fun p q b c w h0 h1 => or_two p q b c w h0 h1
  unfold cmpK
  obtain ⟨x, ex⟩ : ∃ x, cmpN s s' = x := ⟨_, rfl⟩
  obtain ⟨y, ey⟩ : ∃ y, cmpN o o' = y := ⟨_, rfl⟩
  have hc1 := fun w => compare_u64 s s' w
  have hc2 := fun w => compare_u64 o o' w
  rw [ex] at hc1
  rw [ey] at hc2
  rw [ex, ey]
  have ha : ((w.alloc (.cells #[.int .u64 s, .int .u64 o] 157)).alloc (.cells #[.int .u64 s', .int .u64 o'] 157)).heap[w.heap.size]? = some (.cells #[.int .u64 s, .int .u64 o] 157 (0, 0)) := (Below.heap_alloc _ _ _ (by simp)).trans (heap_alloc_new' w _)
  have hb : ((w.alloc (.cells #[.int .u64 s, .int .u64 o] 157)).alloc (.cells #[.int .u64 s', .int .u64 o'] 157)).heap[w.heap.size + 1]? = some (.cells #[.int .u64 s', .int .u64 o'] 157 (0, 0)) := by
    have := heap_alloc_new' (w.alloc (.cells #[.int .u64 s, .int .u64 o] 157)) (.cells #[.int .u64 s', .int .u64 o'] 157)
    rwa [World.size_alloc] at this
  obtain ⟨W, hW⟩ : ∃ W, (w.alloc (.cells #[.int .u64 s, .int .u64 o] 157)).alloc (.cells #[.int .u64 s', .int .u64 o'] 157) = W := ⟨_, rfl⟩
  rw [hW] at ha hb
  obtain ⟨a0, a1⟩ := two_cells ha
  obtain ⟨b0, b1⟩ := two_cells hb
  clear ha hb
  have hor := or_two x y W.heap.size 2 (W.alloc (.cells #[.int .i64 x, .int .i64 y] 3)).drew (two_cells (heap_alloc_new' W (.cells #[.int .i64 x, .int .i64 y] 3))).1 (two_cells (heap_alloc_new' W (.cells #[.int .i64 x, .int .i64 y] 3))).2
  obtain ⟨r, er⟩ : ∃ r, (if x = 0 then y else x) = r := ⟨_, rfl⟩
  rw [er] at hor ⊢
  clear er
  go_enter Tryz.func124, Tryz.ntmps124
  go_wp2
  go_region_held3 (fun wr => wr.cell? ⟨w.heap.size, 0, none⟩ = some (.int .u64 s) ∧ wr.cell? ⟨w.heap.size, 1, none⟩ = some (.int .u64 o) ∧ wr.cell? ⟨w.heap.size + 1, 0, none⟩ = some (.int .u64 s') ∧ wr.cell? ⟨w.heap.size + 1, 1, none⟩ = some (.int .u64 o')) (go_keep) (first | (go_at_call 165; (with_reducible refine (hc1 _).mono ?_); rintro e w1 ⟨rfl, rfl⟩) | (go_at_call 165; (with_reducible refine (hc2 _).mono ?_); rintro e w1 ⟨rfl, rfl⟩) | (go_at_call 164; (with_reducible refine hor.mono ?_); rintro e w1 ⟨rfl, rfl⟩))
  all_goals go_wp2
  go_ret
  refine ⟨rfl, 1, #[.cells #[.int .u64 s, .int .u64 o] 157, .cells #[.int .u64 s', .int .u64 o'] 157, .cells #[.int .i64 x, .int .i64 y] 3], ?_⟩
  rw [← hW]
  simp only [Go.Sort.alloc_eq_grow, Go.Sort.grow_grow, Go.Sort.drew_grow]
  rfl
end Go.Proofs.YtmcnpenihoaajaaGreat
namespace Go.Proofs.YtmcnpenihoaajaaGreat
open Go.RowKit
set_option maxRecDepth 100000
theorem wpList_append_num {w2 : World} {ops : Array Oper} {rest : List Oper} {o : Oper} {a : Act} {Q : Exit → Act → World → Prop} (hgd : o.guard = none) (s x : Operand)
    (ho : o.op = .call { callee := .builtin .append, args := #[s, x], argTypes := #[34, 34] })
    (base : Nat) (v : Value) (xs : List Nat) (hs : a.eval s = v) (hown : OwnW w2 base v xs) (y : Nat)
    (hx : a.eval x = .slice (some ⟨w2.heap.size, 0, none⟩) 1 1) (hn : xs.length ≤ 10000000) (hbase : base ≤ w2.heap.size)
    (h : ∀ v' w', OwnW w' base v' (xs ++ [y]) → w2.grownBy w' v.ownBlock → (v'.ownBlock = v.ownBlock ∨ v'.ownBlock = some (w2.heap.size + 1)) → wpList Tryz.prog ops Q rest (a.put o.dst v') w') :
    wpList Tryz.prog ops Q (o :: rest) a (w2.alloc (.cells #[.int .u64 (y : Nat)] 22)) := by
  obtain ⟨i0, hi, hz0, hz1, hz2⟩ := info_parts info_u64
  refine wpList_append_own_at _ hgd s x 34 ho base 22 i0 (.int .u64 0) 1 8 Tryz.underlying34 hi hz0 hz1 hz2 rfl (by decide) v xs.length (cellsU xs) hs (World.ownsRow.alloc hown _) ⟨w2.heap.size, 0, none⟩ 1 1 [.int .u64 (y : Nat)] hx rfl (cell_one_new _ _ _) (by simp [Value.oneCell']) (by unfold maxLen; omega) (by omega) (by rw [World.size_alloc]; omega) fun v' w' h1 h2 _ h4 => h v' w' ?_ (grown_trans (grown_any (World.grownBy_alloc _ _ none) _) h2) (by rw [World.size_alloc] at h4; exact h4)
  unfold OwnW
  have e1 : cellsU (xs ++ [y]) = cellsU xs ++ [.int .u64 (y : Nat)] := by simp [cellsU]
  rw [e1, List.length_append]
  exact h1
theorem own_empty (w : World) (base : Nat) (hb : base ≤ w.heap.size) : OwnW (w.alloc (.cells #[] 22)) base (.slice (some ⟨w.heap.size, 0, none⟩) 0 0) [] :=
  ⟨rfl, .inr ⟨_, 0, #[], rfl, hb, heap_alloc_new' _ _, Nat.le_refl _, by unfold maxLen; omega, rfl, rfl⟩⟩
section
variable {w : World} {base : Nat} {wv pv : Value} {ws : List Nat} {l : List (Nat × Nat)}
end
end Go.Proofs.YtmcnpenihoaajaaGreat
namespace Go.Proofs.YtmcnpenihoaajaaGreat
set_option maxRecDepth 100000
def sortNode_ren : Go.Shelf.Ren := ⟨fun | 6 => 122 | 15 => 112 | 14 => 163 | 28 => 155 | 29 => 156 | 20 => 195 | 21 => 196 | 22 => 197 | 23 => 198 | 24 => 199 | 25 => 200 | 26 => 201 | 27 => 202 | 46 => 224 | 47 => 177 | 48 => 178 | 49 => 225 | 50 => 226 | 57 => 232 | n => n, fun | 22 => 153 | 24 => 159 | 25 => 202 | 3 => 3 | 39 => 61 | 0 => 0 | 53 => 232 | 55 => 22 | 4 => 4 | 46 => 225 | 45 => 224 | 50 => 229 | 5 => 5 | 9 => 9 | 66 => 252 | 70 => 255 | 76 => 277 | 77 => 278 | n => n, fun | n => n⟩
theorem sortNode : Go.Proofs.SlLaysF0.n6 Tryz.prog sortNode_ren where
  mixed := by kernel_rfl
  f6 := ⟨(Tryz.f122).name, by kernel_rfl, Tryz.func122.trans (congrArg some (by kernel_rfl))⟩
  f14 := ⟨(Tryz.f163).name, by kernel_rfl, Tryz.func163.trans (congrArg some (by kernel_rfl))⟩
  f15 := Tryz.func112.trans (congrArg some (by kernel_rfl))
  f20 := ⟨(Tryz.f195).name, by kernel_rfl, Tryz.func195.trans (congrArg some (by kernel_rfl))⟩
  f21 := ⟨(Tryz.f196).name, by kernel_rfl, Tryz.func196.trans (congrArg some (by kernel_rfl))⟩
  f22 := ⟨(Tryz.f197).name, by kernel_rfl, Tryz.func197.trans (congrArg some (by kernel_rfl))⟩
  f23 := ⟨(Tryz.f198).name, by kernel_rfl, Tryz.func198.trans (congrArg some (by kernel_rfl))⟩
  f24 := ⟨(Tryz.f199).name, by kernel_rfl, Tryz.func199.trans (congrArg some (by kernel_rfl))⟩
  f25 := ⟨(Tryz.f200).name, by kernel_rfl, Tryz.func200.trans (congrArg some (by kernel_rfl))⟩
  f26 := ⟨(Tryz.f201).name, by kernel_rfl, Tryz.func201.trans (congrArg some (by kernel_rfl))⟩
  f27 := ⟨(Tryz.f202).name, by kernel_rfl, Tryz.func202.trans (congrArg some (by kernel_rfl))⟩
  f28 := Tryz.func155.trans (congrArg some (by kernel_rfl))
  f29 := Tryz.func156.trans (congrArg some (by kernel_rfl))
  f46 := ⟨(Tryz.f224).name, by kernel_rfl, Tryz.func224.trans (congrArg some (by kernel_rfl))⟩
  f47 := Tryz.func177.trans (congrArg some (by kernel_rfl))
  f48 := Tryz.func178.trans (congrArg some (by kernel_rfl))
  f49 := ⟨(Tryz.f225).name, by kernel_rfl, Tryz.func225.trans (congrArg some (by kernel_rfl))⟩
  f50 := ⟨(Tryz.f226).name, by kernel_rfl, Tryz.func226.trans (congrArg some (by kernel_rfl))⟩
  f57 := ⟨(Tryz.f232).name, by kernel_rfl, Tryz.func232.trans (congrArg some (by kernel_rfl))⟩
  t0 := Tryz.underlying0
  a0 := Tryz.isAgg0
  z0 := Tryz.sizeOf0
  v0 := Tryz.zeroValue0
  t3 := Tryz.underlying3
  a3 := Tryz.isAgg3
  z3 := Tryz.sizeOf3
  v3 := Tryz.zeroValue3
  t4 := Tryz.underlying4
  a4 := Tryz.isAgg4
  z4 := Tryz.sizeOf4
  v4 := Tryz.zeroValue4
  t5 := Tryz.underlying5
  a5 := Tryz.isAgg5
  z5 := Tryz.sizeOf5
  v5 := Tryz.zeroValue5
  t9 := Tryz.underlying9
  a9 := Tryz.isAgg9
  z9 := Tryz.sizeOf9
  v9 := Tryz.zeroValue9
  t22 := Tryz.underlying153
  a22 := Tryz.isAgg153
  z22 := Tryz.sizeOf153
  v22 := Tryz.zeroValue153
  t25 := Tryz.underlying202
  a25 := Tryz.isAgg202
  z25 := Tryz.sizeOf202
  v25 := Tryz.zeroValue202
  t39 := Tryz.underlying61
  a39 := Tryz.isAgg61
  z39 := Tryz.sizeOf61
  v39 := Tryz.zeroValue61
  t45 := Tryz.underlying224
  a45 := Tryz.isAgg224
  z45 := Tryz.sizeOf224
  v45 := Tryz.zeroValue224
  t46 := Tryz.underlying225
  a46 := Tryz.isAgg225
  z46 := Tryz.sizeOf225
  v46 := Tryz.zeroValue225
  t50 := Tryz.underlying229
  a50 := Tryz.isAgg229
  z50 := Tryz.sizeOf229
  v50 := Tryz.zeroValue229
  t53 := Tryz.underlying232
  a53 := Tryz.isAgg232
  z53 := Tryz.sizeOf232
  v53 := Tryz.zeroValue232
  t55 := Tryz.underlying22
  a55 := Tryz.isAgg22
  z55 := Tryz.sizeOf22
  v55 := Tryz.zeroValue22
  t66 := Tryz.underlying252
  a66 := Tryz.isAgg252
  z66 := Tryz.sizeOf252
  v66 := Tryz.zeroValue252
  t70 := Tryz.underlying255
  a70 := Tryz.isAgg255
  z70 := Tryz.sizeOf255
  v70 := Tryz.zeroValue255
  t76 := Tryz.underlying277
  a76 := Tryz.isAgg277
  z76 := Tryz.sizeOf277
  v76 := Tryz.zeroValue277
  t77 := Tryz.underlying278
  a77 := Tryz.isAgg278
  z77 := Tryz.sizeOf278
  v77 := Tryz.zeroValue278
end Go.Proofs.YtmcnpenihoaajaaGreat
namespace Go.Proofs.YtmcnpenihoaajaaGreat
open Go.RowKit
section
variable {l : List (Nat × Nat)} {off n : Nat}
structure FreeL (l : List Nat) : Prop where
  on : ∀ x, x ∈ l → x % 16 = 0 ∧ 3776 ≤ x ∧ x + 48 ≤ 4800
  apart : l.Pairwise fun x y => x + 48 ≤ y
theorem FreeL.nodup {k : List Nat} (h : FreeL k) : k.Nodup := h.apart.imp fun h => by omega
theorem far_of : ∀ {k : List Nat}, k.Pairwise (fun x y => x + 48 ≤ y) → ∀ {x y : Nat}, x ∈ k → y ∈ k → x ≠ y → x + 48 ≤ y ∨ y + 48 ≤ x
  | [], _, x, y, hx, _, _ => by simp at hx
  | a :: k, h, x, y, hx, hy, hn => by
    have h' := List.pairwise_cons.1 h
    rcases List.mem_cons.1 hx with ex | kx
    · rcases List.mem_cons.1 hy with ey | ky
      · omega
      · rw [ex]; exact .inl (h'.1 y ky)
    · rcases List.mem_cons.1 hy with ey | ky
      · rw [ey]; exact .inr (h'.1 x kx)
      · exact far_of h'.2 kx ky hn
theorem FreeL.far {k : List Nat} (h : FreeL k) {x y : Nat} (hx : x ∈ k) (hy : y ∈ k) (hn : x ≠ y) : x + 48 ≤ y ∨ y + 48 ≤ x := far_of h.apart hx hy hn
end
end Go.Proofs.YtmcnpenihoaajaaGreat
namespace Go.Proofs.YtmcnpenihoaajaaGreat
open Go.RowKit
theorem rk_inj_of (a b C D M : Int) (h1 : (C * D) % M = 1 % M) (ha : a % M = a) (hb : b % M = b) (h : (a * C) % M = (b * C) % M) : a = b := by
  have h2 : (a * C * D) % M = (b * C * D) % M := by rw [Int.mul_emod (a * C), h, ← Int.mul_emod]
  have key : ∀ x : Int, x % M = x → (x * C * D) % M = x := by
    intro x hx
    rw [Int.mul_assoc, Int.mul_emod, h1, ← Int.mul_emod, Int.mul_one, hx]
  rw [← key a ha, ← key b hb, h2]
theorem nat_u64 (x : Nat) (hx : x < 18446744073709551616) : (x : Int) % 18446744073709551616 = x := Int.emod_eq_of_lt (by omega) (by omega)
theorem wrap_nat (y : Int) : IntKind.u64.wrap y = ((IntKind.u64.wrap y).toNat : Nat) := by rw [IntKind.wrap_u64]; omega
def rkN (x : Nat) : Nat := (IntKind.u64.wrap ((x : Int) * 11400714819323198485)).toNat
theorem rkN_wrap (x : Nat) : IntKind.u64.wrap ((x : Int) * 11400714819323198485) = (rkN x : Nat) := wrap_nat _
theorem rkN_inj {x y : Nat} (hx : x < 18446744073709551616) (hy : y < 18446744073709551616) (h : rkN x = rkN y) : x = y := by
  have h2 : IntKind.u64.wrap ((x : Int) * 11400714819323198485) = IntKind.u64.wrap ((y : Int) * 11400714819323198485) := by rw [rkN_wrap, rkN_wrap, h]
  simp only [IntKind.wrap_u64] at h2
  exact Int.ofNat.inj (rk_inj_of x y 11400714819323198485 17428512612931826493 18446744073709551616 (by decide +kernel) (nat_u64 x hx) (nat_u64 y hy) h2)
section
variable {f g rk : Nat → Nat} {F l : List Nat} {r x y : Nat}
theorem FreeL.sons (h : FreeL F) (hx : x ∈ F) {n : Nat} : stands (fmt48 n) x ∧ stands (fmt48 n) (x + 8) ∧ stands (fmt48 n) (x + 16) ∧ x < 18446744073709551616 := by
  obtain ⟨h1, h2, h3⟩ := h.on x hx
  exact ⟨stands48 (by omega) (by omega), stands48 (by omega) (by omega), stands48 (by omega) (by omega), by omega⟩
structure TreeIs (f z : Nat → Nat) (F l : List Nat) : Prop where
  free : FreeL F
  sub : ∀ x, x ∈ l → x ∈ F
  nodup : l.Nodup
  tree : TreeOf f rkN (f 32) (srtK z l)
theorem TreeIs.nil {z : Nat → Nat} (h : FreeL F) (h0 : f 32 = 0) : TreeIs f z F [] := ⟨h, by simp, by simp, by rw [h0]; exact TreeOf.nil⟩
theorem TreeIs.same {z : Nat → Nat} (h : TreeIs f z F l) (k : TreeIs g z F l) : f 32 = g 32 ∧ ∀ x, x ∈ l → f (x + 8) = g (x + 8) ∧ f (x + 16) = g (x + 16) := by
  obtain ⟨h1, h2⟩ := h.tree.same k.tree
  exact ⟨h1, fun x hx => h2 x (srtK_mem.2 hx)⟩
end
end Go.Proofs.YtmcnpenihoaajaaGreat
namespace Go.Proofs.YtmcnpenihoaajaaGreat
open Go.RowKit
section
variable {f f1 g g' z : Nat → Nat} {F S l : List Nat} {off lk n k : Nat}
def Kept (F : List Nat) (f g : Nat → Nat) : Prop := ∀ q, q ≠ 32 → (∀ x, x ∈ F → q ≠ x + 8 ∧ q ≠ x + 16) → g q = f q
theorem Kept.refl : Kept F f f := fun _ _ _ => rfl
theorem Kept.trans (h : Kept F f g) (k : Kept F g g') : Kept F f g' := fun q h1 h2 => (k q h1 h2).trans (h q h1 h2)
theorem Kept.put (hl : lk = 32 ∨ ∃ x, x ∈ F ∧ (lk = x + 8 ∨ lk = x + 16)) (hg : ∀ q, q ≠ lk → g q = f q) : Kept F f g := fun q h1 h2 => hg q fun e => by
  rcases hl with h | ⟨x, hx, h⟩
  · omega
  · have := h2 x hx; omega
theorem Kept.first (h : Kept F f g) (hF : FreeL F) {x : Nat} (hx : x ∈ F) : g x = f x := by
  refine h x (by have := hF.on x hx; omega) fun y hy => ?_
  rcases Nat.decEq x y with hn | rfl
  · have := hF.far hx hy hn; omega
  · omega
end
end Go.Proofs.YtmcnpenihoaajaaGreat
namespace Go.Proofs.YtmcnpenihoaajaaGreat
open Go.RowKit
theorem mix_rk (x : Nat) (w : World) : Calls Tryz.prog 78 #[.int .u64 x] w fun e w' => e = .returned (.int .u64 (rkN x : Nat)) ∧ w = w' := by
  have := mix_any x w
  rwa [rkN_wrap] at this
def ltK (s o s' o' : Nat) : Prop := s < s' ∨ (s = s' ∧ o < o')
instance (s o s' o' : Nat) : Decidable (ltK s o s' o') := by unfold ltK; infer_instance
theorem cmpK_lt {s o s' o' : Nat} (h : ltK s o s' o') : cmpK s o s' o' = -1 := by
  unfold cmpK ltK at *
  rcases h with h | ⟨rfl, h⟩
  · rw [cmpN_lt h]; simp
  · rw [cmpN_eq, if_pos rfl, cmpN_lt h]
theorem cmpK_ge {s o s' o' : Nat} (h : ¬ ltK s o s' o') : cmpK s o s' o' = 0 ∨ cmpK s o s' o' = 1 := by
  unfold ltK at h
  unfold cmpK
  rcases cmpN_three s s' with ⟨h1, e⟩ | ⟨h1, e⟩ | ⟨h1, e⟩
  · omega
  · rw [e]; simp
  · rw [e, if_pos rfl]
    rcases cmpN_three o o' with ⟨h2, e2⟩ | ⟨h2, e2⟩ | ⟨h2, e2⟩
    · omega
    · exact .inr e2
    · exact .inl e2
theorem two_frozen {w : World} {b : Nat} {x y : Value} {t : TypeId} (h : w.heap[b]? = some (.cells #[x, y] t (0, 0))) : w.frozen? ⟨b, 0, none⟩ = false ∧ w.frozen? ⟨b, 1, none⟩ = false := by
  exact ⟨by simp [World.frozen?, h], by simp [World.frozen?, h]⟩
theorem two_put {w : World} {b : Nat} {x y x' y' : Value} {t : TypeId} (h : w.heap[b]? = some (.cells #[x, y] t (0, 0))) : ((w.setCell ⟨b, 0, none⟩ x').setCell ⟨b, 1, none⟩ y').heap[b]? = some (.cells #[x', y'] t (0, 0)) := by
  rw [heap_setCell_same (heap_setCell_same h x') y']; rfl
theorem two_grown {w0 w : World} {b : Nat} {x' y' : Value} (h : w0.grownBy w none) (hb : w0.heap.size ≤ b) : w0.grownBy ((w.setCell ⟨b, 0, none⟩ x').setCell ⟨b, 1, none⟩ y') none :=
  grown_new (grown_trans (grown_any h _) (grown_trans (grown_set _ _ _ _) (grown_set _ _ _ _))) hb
section
variable {w : World} {T M : Nat} {R : Option Nat} {B D : Nat} {ws : List Nat} {l : List (Nat × Nat)}
set_option maxHeartbeats 1000000 in
theorem tkey_any (h : Thinks w T M R B D ws l) (off : Nat) (ho : off < 18446744073709551616) :
    Calls Tryz.prog 121 #[.agg #[.pointer (some ⟨T, 0, none⟩)], .int .u64 off] w fun e w' => e = .returned (.agg #[.int .u64 (tS (txSee ws l off) : Nat), .int .u64 off]) ∧ w.grownBy w' none := by
  have hload := fun (w1 : World) (hg : w.grownBy w1 none) => txload_any (h.later hg) off ho
  have hlt := txSee_lt h.seg.words h.ok off
  obtain ⟨x, hx⟩ : ∃ x, txSee ws l off = x := ⟨_, rfl⟩
  rw [hx] at hload hlt ⊢
  have hun := fun w1 => tunpack_any x hlt w1
  obtain ⟨s, hs⟩ : ∃ s, tS x = s := ⟨_, rfl⟩
  obtain ⟨u, hu⟩ : ∃ u, tU x = u := ⟨_, rfl⟩
  obtain ⟨o, ho⟩ : ∃ o, tO x = o := ⟨_, rfl⟩
  obtain ⟨m, hm⟩ : ∃ m, decide (mayW x) = m := ⟨_, rfl⟩
  rw [hs, hu, ho, hm] at hun
  rw [hs]
  have hg0 : w.grownBy ((w.alloc (.cells #[.pointer (some ⟨T, 0, none⟩)] 152)).alloc (.cells #[.int .u64 0, .int .u64 0] 157)) none := grown_trans (World.grownBy_alloc _ _ _) (World.grownBy_alloc _ _ _)
  have hb : ((w.alloc (.cells #[.pointer (some ⟨T, 0, none⟩)] 152)).alloc (.cells #[.int .u64 0, .int .u64 0] 157)).heap[w.heap.size + 1]? = some (.cells #[.int .u64 0, .int .u64 0] 157 (0, 0)) := by
    have := heap_alloc_new' (w.alloc (.cells #[.pointer (some ⟨T, 0, none⟩)] 152)) (.cells #[.int .u64 0, .int .u64 0] 157)
    rwa [World.size_alloc] at this
  have HB := Lib.hid hb
  clear hs hu ho hm hx hlt h hb
  go_enter Tryz.func121, Tryz.ntmps121
  go_wp2_with (first | (go_at_call 66; (with_reducible refine (hload _ hg0).mono ?_); rintro e w1 ⟨rfl, hg1⟩) | (go_at_call 162; (with_reducible refine (hun _).mono ?_); rintro e w2 ⟨rfl, hg2⟩; have HG := Lib.hid (grown_trans hg0 (grown_trans hg1 hg2)); have HB2 := Lib.hid (two_held (two_held (two_held HB.out hg1) hg2) (World.grownBy_alloc w2 (.cells #[.int .u64 s, .bool u, .int .i64 o] 126) none)); obtain ⟨c0, c1⟩ := two_cells HB2.out; obtain ⟨f0, f1⟩ := two_frozen HB2.out))
  have hb := two_put HB2.out (x' := .int .u64 s) (y' := .int .u64 off)
  obtain ⟨k0, k1⟩ := two_cells hb
  refine bodyPost_ret (v := .agg #[.int .u64 s, .int .u64 off]) (by simp [results, Tryz.results121, go_sem, k0, k1]) rfl ?_
  exact ⟨rfl, two_grown (grown_trans HG.out (World.grownBy_alloc _ _ _)) (by omega)⟩
end
end Go.Proofs.YtmcnpenihoaajaaGreat
namespace Go.Proofs.YtmcnpenihoaajaaGreat
open Go.RowKit
section
variable {f g g' z : Nat → Nat} {F S U : List Nat} {off lk n k left right : Nat}
theorem rank_le {t : Nat} {L : List Nat} (ht : TreeOf g rkN t L) {x : Nat} (hx : x ∈ L) : rkN x ≤ rkN t := by
  by_cases e : t = 0
  · rw [e] at ht; rw [ht.zero] at hx; simp at hx
  · obtain ⟨A, B, rfl, hA, hB, _, _⟩ := ht.some e
    simp only [List.mem_append, List.mem_cons] at hx
    rcases hx with hx | rfl | hx
    · have := hA x hx; omega
    · omega
    · have := hB x hx; omega
end
end Go.Proofs.YtmcnpenihoaajaaGreat
namespace Go.Proofs.YtmcnpenihoaajaaGreat
open Go.RowKit
structure Bed (ws : List Nat) (l : List (Nat × Nat)) (z : Nat → Nat) (F : List Nat) : Prop where
  free : FreeL F
  long : 8 * ws.length = 4800
  keys : ∀ x, x ∈ F → tS (txSee ws l x) = z x
def LinkOf (F : List Nat) (lk : Nat) : Prop := lk = 32 ∨ ∃ x, x ∈ F ∧ (lk = x + 8 ∨ lk = x + 16)
section
variable {w : World} {T M : Nat} {R : Option Nat} {B D : Nat} {ws : List Nat} {l l' : List (Nat × Nat)} {z : Nat → Nat} {F S : List Nat} {off lk n k v : Nat}
theorem Bed.stand (h : Bed ws l z F) (hl : LinkOf F lk) : stands ws lk ∧ lk < 18446744073709551616 := by
  have := h.long
  unfold stands
  rcases hl with rfl | ⟨x, hx, e⟩
  · omega
  · have := h.free.on x hx
    omega
theorem Bed.first (h : Bed ws l z F) {x : Nat} (hx : x ∈ F) : stands ws x ∧ x + 16 < 18446744073709551616 := by
  have := h.long
  have := h.free.on x hx
  unfold stands
  omega
theorem Bed.kept (h : Bed ws l z F) (hk : Kept F (txSee ws l) (txSee ws l')) : Bed ws l' z F :=
  ⟨h.free, h.long, fun x hx => by rw [hk.first h.free hx]; exact h.keys x hx⟩
end
end Go.Proofs.YtmcnpenihoaajaaGreat
