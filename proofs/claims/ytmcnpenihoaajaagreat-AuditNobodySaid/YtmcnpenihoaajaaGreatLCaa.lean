/-
  Texts of one layer, one behind the other: memory, contracts of the functions, and what follows of them.
  Conditions: as each theorem says.
-/
import Derived.Test.YtmcnpenihoaajaaGreatLPha
import Derived.Test.YtmcnpenihoaajaaGreatLTra
import Derived.Test.YtmcnpenihoaajaaGreatLHea
import Derived.Test.YtmcnpenihoaajaaGreatLCla
import Derived.Deep.RegionHeld3
import Derived.Test.YtmcnpenihoaajaaGreatLWoa
import Derived.LoopTactic
import Derived.Deep.LoopGhost
import Derived.Test.YtmcnpenihoaajaaGreatLPhb
import Derived.Test.YtmcnpenihoaajaaGreatLTaa
import Derived.StillTailTactics
import Derived.Deep.QuietTactic
import Derived.BigQuiet
import Derived.Laws.StructEq
import Derived.Deep.AppendLies
import Derived.Laws.AppendOwnNone
import Derived.Test.YtmcnpenihoaajaaGreatLTxa
import Derived.RangeFuncCalls
import Derived.TacticsInMore
import Derived.OrdersIn
import Derived.Test.YtmcnpenihoaajaaGreatLSea
import Derived.Maps.OwnIn
import Derived.Test.YtmcnpenihoaajaaGreatLTrd
import Derived.Test.YtmcnpenihoaajaaGreatLClb
import Derived.Deep.Slices
set_option linter.unusedVariables false
set_option linter.unusedSimpArgs false
namespace Go.Proofs.YtmcnpenihoaajaaGreat
open Go.RowKit
structure BkIs (f : Nat → Nat) (E : Nat) (b : Blk) : Prop where
  may : mayP b.s b.u b.o
  al : b.off % 16 = 0
  lo : 3776 ≤ b.off
  hi : b.off + b.s ≤ E
  head : f b.off = packN b.s b.u b.o
  foot : f (b.off + b.s - 8) = packN b.s b.u b.o
  len : if b.u = true then f (b.off + 8) = b.n ∧ b.n + 40 ≤ b.s else b.n = 0
theorem may_bounds {s : Nat} {u : Bool} {o : Int} (h : mayP s u o) : s % 16 = 0 ∧ 48 ≤ s ∧ s ≤ 1048576 ∧ 0 ≤ o ∧ o ≤ 8 ∧ (u = false → o = 0) := by
  unfold mayP at h
  refine ⟨h.1, h.2.1, h.2.2.1, h.2.2.2.1, h.2.2.2.2.1, fun e => ?_⟩
  rcases h.2.2.2.2.2 with h1 | h1
  · rw [e] at h1; cases h1
  · exact h1
theorem unpack_int {s : Nat} {u : Bool} {o : Int} (h : mayP s u o) : packN s u o < 18446744073709551616 ∧ mayW (packN s u o) ∧ usz (packN s u o) = s ∧ uus (packN s u o) = u ∧ (uow (packN s u o) : Int) = o := by
  obtain ⟨m, rfl⟩ := Int.eq_ofNat_of_zero_le (may_bounds h).2.2.2.1
  obtain ⟨h1, h2, h3, h4, h5⟩ := unpack_pack h
  exact ⟨h1, h2, h3, h4, by rw [h5]⟩
section
variable {f g : Nat → Nat} {E : Nat} {b : Blk}
theorem BkIs.size (h : BkIs f E b) : 48 ≤ b.s ∧ b.s % 16 = 0 := ⟨(may_bounds h.may).2.1, (may_bounds h.may).1⟩
theorem BkIs.congr (h : BkIs f E b) (h1 : g b.off = f b.off) (h2 : g (b.off + b.s - 8) = f (b.off + b.s - 8)) (h3 : b.u = true → g (b.off + 8) = f (b.off + 8)) : BkIs g E b :=
  ⟨h.may, h.al, h.lo, h.hi, h1.trans h.head, h2.trans h.foot, by
    have := h.len
    split
    · rename_i e
      rw [if_pos e] at this
      rw [h3 e]
      exact this
    · rename_i e
      rwa [if_neg e] at this⟩
theorem BkIs.grow {E' : Nat} (h : BkIs f E b) (he : b.off + b.s ≤ E') : BkIs f E' b := ⟨h.may, h.al, h.lo, he, h.head, h.foot, h.len⟩
end
def Told (f : Nat → Nat) (E : Nat) : Nat → List Blk → Nat → Prop
  | off, [], e => off = e
  | off, b :: r, e => b.off = off ∧ BkIs f E b ∧ Told f E (off + b.s) r e
section
variable {f g : Nat → Nat} {E off e : Nat} {b : Blk} {bs cs : List Blk}
theorem told_cons : Told f E off (b :: bs) e ↔ b.off = off ∧ BkIs f E b ∧ Told f E (off + b.s) bs e := Iff.rfl
theorem told_append : Told f E off (bs ++ cs) e ↔ ∃ m, Told f E off bs m ∧ Told f E m cs e := by
  induction bs generalizing off with
  | nil => exact ⟨fun h => ⟨off, rfl, h⟩, fun ⟨m, h1, h2⟩ => by rw [show off = m from h1]; exact h2⟩
  | cons b r ih =>
    rw [List.cons_append, told_cons, ih]
    constructor
    · rintro ⟨h1, h2, m, h3, h4⟩; exact ⟨m, ⟨h1, h2, h3⟩, h4⟩
    · rintro ⟨m, ⟨h1, h2, h3⟩, h4⟩; exact ⟨h1, h2, m, h3, h4⟩
theorem Told.is (h : Told f E off bs e) : ∀ x ∈ bs, BkIs f E x := by
  induction bs generalizing off with
  | nil => intro x hx; cases hx
  | cons b r ih =>
    obtain ⟨h1, h2, h3⟩ := h
    intro x hx
    rcases List.mem_cons.1 hx with rfl | hx
    · exact h2
    · exact ih h3 x hx
theorem Told.le (h : Told f E off bs e) : off ≤ e := by
  induction bs generalizing off with
  | nil => exact Nat.le_of_eq h
  | cons b r ih => have := ih h.2.2; omega
theorem Told.within (h : Told f E off bs e) : ∀ x ∈ bs, off ≤ x.off ∧ x.off + x.s ≤ e := by
  induction bs generalizing off with
  | nil => intro x hx; cases hx
  | cons b r ih =>
    obtain ⟨h1, h2, h3⟩ := h
    have hle := Told.le h3
    intro x hx
    rcases List.mem_cons.1 hx with rfl | hx
    · omega
    · have := ih h3 x hx; omega
theorem Told.apart (h : Told f E off bs e) : bs.Pairwise fun x y => x.off + x.s ≤ y.off := by
  induction bs generalizing off with
  | nil => exact List.Pairwise.nil
  | cons b r ih =>
    obtain ⟨h1, h2, h3⟩ := h
    refine List.pairwise_cons.2 ⟨fun y hy => ?_, ih h3⟩
    have := (Told.within h3 y hy).1
    omega
theorem Told.congr (h : Told f E off bs e) (hg : ∀ x ∈ bs, g x.off = f x.off ∧ g (x.off + x.s - 8) = f (x.off + x.s - 8) ∧ (x.u = true → g (x.off + 8) = f (x.off + 8))) : Told g E off bs e := by
  induction bs generalizing off with
  | nil => exact h
  | cons b r ih =>
    obtain ⟨h1, h2, h3⟩ := h
    obtain ⟨g1, g2, g3⟩ := hg b (by simp)
    exact ⟨h1, h2.congr g1 g2 g3, ih h3 (fun x hx => hg x (by simp [hx]))⟩
end
def freesB (bs : List Blk) : List Nat := (bs.filter fun b => !b.u).map Blk.off
def usedB (bs : List Blk) : List Nat := (bs.filter fun b => b.u).map Blk.off
theorem freesB_append (bs cs : List Blk) : freesB (bs ++ cs) = freesB bs ++ freesB cs := by simp [freesB]
theorem freesB_mem {bs : List Blk} {x : Nat} : x ∈ freesB bs ↔ ∃ b ∈ bs, b.u = false ∧ b.off = x := by
  unfold freesB
  rw [List.mem_map]
  constructor
  · rintro ⟨b, hb, h⟩
    obtain ⟨h1, h2⟩ := List.mem_filter.1 hb
    exact ⟨b, h1, by simpa using h2, h⟩
  · rintro ⟨b, h1, h2, h3⟩
    exact ⟨b, List.mem_filter.2 ⟨h1, by simp [h2]⟩, h3⟩
section
variable {f g : Nat → Nat} {E off e : Nat} {b : Blk} {bs cs : List Blk}
theorem Told.far48 (h : Told f E off bs e) : bs.Pairwise fun x y => x.off + 48 ≤ y.off :=
  h.apart.imp_of_mem fun hx _ hxy => by
    have := (h.is _ hx).size
    omega
theorem Told.freeL (h : Told f E off bs e) (hE : E ≤ 4800) : FreeL (freesB bs) := by
  refine ⟨fun x hx => ?_, ?_⟩
  · obtain ⟨b, hb, _, rfl⟩ := freesB_mem.1 hx
    have hi := h.is b hb
    have := hi.size
    have := hi.al
    have := hi.lo
    have := hi.hi
    omega
  · unfold freesB
    rw [List.pairwise_map]
    exact h.far48.filter _
theorem Told.one (h : Told f E off bs e) {x y : Blk} (hx : x ∈ bs) (hy : y ∈ bs) (ho : x.off = y.off) : x = y := by
  induction bs generalizing off with
  | nil => cases hx
  | cons b r ih =>
    obtain ⟨h1, h2, h3⟩ := h
    have hs := h2.size
    rcases List.mem_cons.1 hx with ex | hx'
    · rcases List.mem_cons.1 hy with ey | hy'
      · rw [ex, ey]
      · have := (Told.within h3 y hy').1
        rw [ex] at ho
        omega
    · rcases List.mem_cons.1 hy with ey | hy'
      · have := (Told.within h3 x hx').1
        rw [ey] at ho
        omega
      · exact ih h3 hx' hy'
theorem Told.sep (h : Told f E off bs e) {x y : Blk} (hx : x ∈ bs) (hy : y ∈ bs) (hn : x.off ≠ y.off) : x.off + x.s ≤ y.off ∨ y.off + y.s ≤ x.off := by
  induction bs generalizing off with
  | nil => cases hx
  | cons b r ih =>
    obtain ⟨h1, h2, h3⟩ := h
    rcases List.mem_cons.1 hx with ex | hx'
    · rcases List.mem_cons.1 hy with ey | hy'
      · rw [ex, ey] at hn; exact absurd rfl hn
      · have := (Told.within h3 y hy').1
        rw [ex]
        omega
    · rcases List.mem_cons.1 hy with ey | hy'
      · have := (Told.within h3 x hx').1
        rw [ey]
        omega
      · exact ih h3 hx' hy'
end
def Mg : List Blk → Prop
  | [] => True
  | [_] => True
  | b :: c :: r => (b.u = true ∨ c.u = true) ∧ Mg (c :: r)
theorem mg_cons {b c : Blk} {r : List Blk} : Mg (b :: c :: r) ↔ (b.u = true ∨ c.u = true) ∧ Mg (c :: r) := Iff.rfl
theorem Mg.tail {b : Blk} {r : List Blk} (h : Mg (b :: r)) : Mg r := by
  cases r with
  | nil => trivial
  | cons c r => exact h.2
theorem mg_append : ∀ {bs : List Blk} {cs : List Blk}, Mg (bs ++ cs) ↔ Mg bs ∧ Mg cs ∧ (∀ b c, bs.getLast? = some b → cs.head? = some c → b.u = true ∨ c.u = true)
  | [], cs => by simp [Mg]
  | [b], [] => by simp [Mg]
  | [b], c :: r => by simp [Mg, and_comm]
  | b :: c :: r, cs => by
    have ih := mg_append (bs := c :: r) (cs := cs)
    rw [List.cons_append, List.cons_append, mg_cons, mg_cons, ← List.cons_append, ih, List.getLast?_cons_cons]
    constructor
    · rintro ⟨h1, h2, h3, h4⟩; exact ⟨⟨h1, h2⟩, h3, h4⟩
    · rintro ⟨⟨h1, h2⟩, h3, h4⟩; exact ⟨h1, h2, h3, h4⟩
def HeadOk (f : Nat → Nat) : Prop := fitsP (f 16) 4800 ∧ f 0 = 7161130718081542961 ∧ f 8 = 1 ∧ f 40 = sumN (f 16)
theorem HeadOk.congr {f g : Nat → Nat} (h : HeadOk f) (hg : ∀ q, q < 48 → q ≠ 32 → g q = f q) : HeadOk g := by
  unfold HeadOk at h ⊢
  rw [hg 16 (by decide) (by decide), hg 0 (by decide) (by decide), hg 8 (by decide) (by decide), hg 40 (by decide) (by decide)]
  exact h
structure SoundF (f : Nat → Nat) (E : Nat) (bs : List Blk) (L : Nat → List Nat) : Prop where
  head : HeadOk f
  top : f 16 = E
  low : E ≤ 4800
  told : Told f E 3776 bs E
  merged : Mg bs
  tree : TreeIs f (fun x => tS (f x)) (freesB bs) (freesB bs)
  ledg : Ledg (usedB bs) f L
  whose : ∀ b ∈ bs, b.u = true → ∀ c, c < 8 → (b.off ∈ L c ↔ b.o = (c : Int) + 1)
section
variable {f g : Nat → Nat} {E : Nat} {bs : List Blk} {L : Nat → List Nat} {b : Blk}
theorem SoundF.freeL (h : SoundF f E bs L) : FreeL (freesB bs) := h.told.freeL h.low
theorem BkIs.key (h : BkIs f E b) : tS (f b.off) = b.s := by
  obtain ⟨_, p2, p3, _⟩ := unpack_int h.may
  unfold tS
  rw [h.head, if_pos p2, p3]
end
theorem TreeIs.congr {f g : Nat → Nat} {z : Nat → Nat} {F l : List Nat} (h : TreeIs f z F l) (h32 : g 32 = f 32) (hg : ∀ x ∈ l, g (x + 8) = f (x + 8) ∧ g (x + 16) = f (x + 16)) : TreeIs g z F l :=
  ⟨h.free, h.sub, h.nodup, by rw [h32]; exact h.tree.frame fun x hx => hg x (srtK_mem.1 hx)⟩
theorem Ledg.congr {U : List Nat} {f g : Nat → Nat} {L : Nat → List Nat} (h : Ledg U f L) (hs : ∀ c, c < 8 → g (slotH c) = f (slotH c)) (hg : ∀ x ∈ U, g (x + 16) = f (x + 16) ∧ g (x + 24) = f (x + 24)) : Ledg U g L :=
  ⟨h.on, h.once, h.apart, fun c hc => by rw [hs c hc]; exact h.head c hc, fun c hc => (h.strung c hc).congr fun x hx => hg x (h.on c hc x hx)⟩
end Go.Proofs.YtmcnpenihoaajaaGreat
namespace Go.Proofs.YtmcnpenihoaajaaGreat
open Go.RowKit
def alignP (a : Nat) : Prop := a = 16 ∨ a = 32 ∨ a = 64 ∨ a = 128 ∨ a = 256 ∨ a = 512 ∨ a = 1024 ∨ a = 2048 ∨ a = 4096
instance (a : Nat) : Decidable (alignP a) := by unfold alignP; infer_instance
theorem alignP.le {a : Nat} (h : alignP a) : 16 ≤ a ∧ a ≤ 4096 ∧ a % 16 = 0 := by unfold alignP at h; omega
def padN (off a : Nat) : Nat := if (off + 32) % a = 0 then 0 else if 48 ≤ a - (off + 32) % a then a - (off + 32) % a else 2 * a - (off + 32) % a
def padIs (off a n : Nat) : Prop := (off + 32 + n) % a = 0 ∧ (n = 0 ∨ 48 ≤ n)
theorem padN_is {off a : Nat} (ha : alignP a) (ho : off % 16 = 0) : padIs off a (padN off a) := by
  unfold padIs padN
  rcases ha with rfl | rfl | rfl | rfl | rfl | rfl | rfl | rfl | rfl <;> split <;> first | omega | (split <;> omega)
theorem padN_al {off a : Nat} (ha : alignP a) (ho : off % 16 = 0) : padN off a % 16 = 0 ∧ padN off a < 8192 := by
  unfold padN
  rcases ha with rfl | rfl | rfl | rfl | rfl | rfl | rfl | rfl | rfl <;> split <;> first | omega | (split <;> omega)
def fitB (need a : Nat) (b : Blk) : Bool := !b.u && decide (need ≤ b.s) && decide (padN b.off a ≤ b.s - need)
def bestK (p : Blk → Bool) (bs : List Blk) : Nat → Option Nat
  | 0 => none
  | k + 1 =>
    match bestK p bs k with
    | none => if p (bs.getD k default) = true then some k else none
    | some i => if p (bs.getD k default) = true ∧ (bs.getD k default).s < (bs.getD i default).s then some k else some i
def BestIs (p : Blk → Bool) (bs : List Blk) (k : Nat) : Option Nat → Prop
  | none => ∀ j, j < k → p (bs.getD j default) = false
  | some i => i < k ∧ p (bs.getD i default) = true ∧ ∀ j, j < k → p (bs.getD j default) = true → (bs.getD i default).s < (bs.getD j default).s ∨ ((bs.getD i default).s = (bs.getD j default).s ∧ i ≤ j)
theorem bestK_is (p : Blk → Bool) (bs : List Blk) : ∀ k, BestIs p bs k (bestK p bs k)
  | 0 => fun j hj => absurd hj (Nat.not_lt_zero _)
  | k + 1 => by
    have ih := bestK_is p bs k
    unfold bestK
    cases e : bestK p bs k with
    | none =>
      rw [e] at ih
      simp only
      by_cases hp : p (bs.getD k default) = true
      · rw [if_pos hp]
        refine ⟨Nat.lt_succ_self k, hp, fun j hj hpj => ?_⟩
        rcases Nat.lt_succ_iff_lt_or_eq.1 hj with h | rfl
        · rw [ih j h] at hpj; cases hpj
        · exact .inr ⟨rfl, Nat.le_refl _⟩
      · rw [if_neg hp]
        intro j hj
        rcases Nat.lt_succ_iff_lt_or_eq.1 hj with h | rfl
        · exact ih j h
        · simpa using hp
    | some i =>
      rw [e] at ih
      obtain ⟨h1, h2, h3⟩ := ih
      simp only
      by_cases hp : p (bs.getD k default) = true ∧ (bs.getD k default).s < (bs.getD i default).s
      · rw [if_pos hp]
        refine ⟨Nat.lt_succ_self k, hp.1, fun j hj hpj => ?_⟩
        rcases Nat.lt_succ_iff_lt_or_eq.1 hj with h | rfl
        · rcases h3 j h hpj with h4 | h4
          · exact .inl (by omega)
          · exact .inl (by omega)
        · exact .inr ⟨rfl, Nat.le_refl _⟩
      · rw [if_neg hp]
        refine ⟨by omega, h2, fun j hj hpj => ?_⟩
        rcases Nat.lt_succ_iff_lt_or_eq.1 hj with h | rfl
        · exact h3 j h hpj
        · have : ¬ (bs.getD j default).s < (bs.getD i default).s := fun h => hp ⟨hpj, h⟩
          omega
def fitM (bs : List Blk) (n a : Nat) : Option Nat := bestK (fitB (needOf n) a) bs bs.length
def fitErr (bs : List Blk) (n a : Nat) : Nat := if ¬ alignP a then 1 else if 18446744073709551560 < n then 2 else if fitM bs n a = none then 3 else 0
def freeB (off s : Nat) : Blk := ⟨off, s, false, 0, 0⟩
def cutB (b : Blk) (pad need owner n : Nat) : List Blk :=
  (if pad = 0 then [] else [freeB b.off pad]) ++ (⟨b.off + pad, if b.s - pad - need < 48 then b.s - pad else need, true, owner, n⟩ :: if b.s - pad - need < 48 then [] else [freeB (b.off + pad + need) (b.s - pad - need)])
def takeB (bs : List Blk) (i pad need owner n : Nat) : List Blk := bs.take i ++ cutB (bs.getD i default) pad need owner n ++ bs.drop (i + 1)
def takeL (L : Nat → List Nat) (owner off : Nat) : Nat → List Nat := if owner = 0 then L else setL L (owner - 1) (off :: L (owner - 1))
end Go.Proofs.YtmcnpenihoaajaaGreat
namespace Go.Proofs.YtmcnpenihoaajaaGreat
open Go.RowKit
set_option maxRecDepth 100000
theorem gets_take {l : List Blk} {n i : Nat} (h : i < n) : (l.take n).getD i default = l.getD i default := by
  rw [List.getD_eq_getElem?_getD, List.getElem?_take, if_pos h, ← List.getD_eq_getElem?_getD]
theorem gets_drop {l : List Blk} {n i : Nat} : (l.drop n).getD i default = l.getD (n + i) default := by
  rw [List.getD_eq_getElem?_getD, List.getElem?_drop, ← List.getD_eq_getElem?_getD]
theorem BlksAt.take {w : World} {la : Option Addr} {l : List Blk} (h : BlksAt w la l) (n : Nat) : BlksAt w la (l.take n) where
  cells := fun hn => by
    rw [List.length_take] at hn
    obtain ⟨b, off, h1, h2, h3⟩ := h.cells (by omega)
    refine ⟨b, off, h1, h2, fun i hi => ?_⟩
    rw [List.length_take] at hi
    have := h3 i (by omega)
    unfold gO gS gU gW gN at this ⊢
    rw [gets_take (by omega)]
    exact this
theorem BlksAt.drop {w : World} {b off : Nat} {l : List Blk} (h : BlksAt w (some ⟨b, off, none⟩) l) (n : Nat) : BlksAt w (some ⟨b, off + n * 5, none⟩) (l.drop n) where
  cells := fun hn => by
    rw [List.length_drop] at hn
    obtain ⟨b', off', h1, h2, h3⟩ := h.cells (by omega)
    injection h1 with h1
    injection h1 with e1 e2
    subst e1 e2
    refine ⟨b, off + n * 5, rfl, h2, fun i hi => ?_⟩
    rw [List.length_drop] at hi
    have := h3 (n + i) (by omega)
    unfold gO gS gU gW gN at this ⊢
    rw [gets_drop, show off + n * 5 + i * 5 = off + (n + i) * 5 by omega]
    exact this
theorem run_append_empty {P : Program} {w : World} (base : Nat) (t ty e : TypeId) (i : TypeInfo) (size c : Nat) (ht : P.underlying t = some (.slice e)) (hi : P.info? e = some i)
    (v : Value) (n : Nat) (xs : List Value) (hown : w.ownsRow base e size v n xs) :
    (Builtin.append_ #[t, t] ty #[v, .slice none 0 c]).run P w = .ok v w := by
  rcases hown.2 with ⟨rfl, rfl⟩ | ⟨g, cap, cur, rfl, _, _, hnc, _⟩
  · simp [Builtin.append_, run_underlying ht, sizeOf, typeInfo, hi, Builtin.lenOf, Builtin.firstCells]
  · simp [Builtin.append_, run_underlying ht, sizeOf, typeInfo, hi, Builtin.lenOf, Builtin.firstCells, hnc, storeCells]
section
variable {w0 W W' : World} {base hb rb bb ub : Nat} {hcs rcs bcs ucs : Array Value} {v v' : Value} {l k : List Blk}
end
end Go.Proofs.YtmcnpenihoaajaaGreat
namespace Go.Proofs.YtmcnpenihoaajaaGreat
open Go.RowKit
structure Lone (ls : List Nat) : Prop where
  on : ∀ x ∈ ls, x % 16 = 0 ∧ 3776 ≤ x ∧ x + 48 ≤ 4800
  nodup : ls.Nodup
  far : ∀ x ∈ ls, ∀ y ∈ ls, x ≠ y → x + 48 ≤ y ∨ y + 48 ≤ x
def upL (ls : List Nat) : List Nat := srtK (fun _ => 0) ls
theorem upL_mem {ls : List Nat} {x : Nat} : x ∈ upL ls ↔ x ∈ ls := srtK_mem
theorem Lone.free {ls : List Nat} (h : Lone ls) : FreeL (upL ls) := by
  refine ⟨fun x hx => h.on x (upL_mem.1 hx), ?_⟩
  have hr : Rising (fun _ => 0) (upL ls) := srtK_rising h.nodup
  refine List.Pairwise.imp_of_mem (fun {a b} ha hb hab => ?_) hr
  have hlt : a < b := by unfold blkLt keyLt at hab; simp only [Nat.lt_irrefl, false_or, true_and] at hab; exact hab
  have := h.far a (upL_mem.1 ha) b (upL_mem.1 hb) (by omega)
  omega
theorem FreeL.lone {ls : List Nat} (h : FreeL ls) : Lone ls := ⟨h.on, h.nodup, fun x hx y hy hn => h.far hx hy hn⟩
theorem Lone.filter {ls : List Nat} (h : Lone ls) (p : Nat → Bool) : Lone (ls.filter p) :=
  ⟨fun x hx => h.on x (List.mem_filter.1 hx).1, h.nodup.filter p, fun x hx y hy => h.far x (List.mem_filter.1 hx).1 y (List.mem_filter.1 hy).1⟩
theorem Lone.snoc {ls : List Nat} {o : Nat} (h : Lone ls) (ho : o % 16 = 0 ∧ 3776 ≤ o ∧ o + 48 ≤ 4800) (hf : ∀ y ∈ ls, y + 48 ≤ o ∨ o + 48 ≤ y) : Lone (ls ++ [o]) := by
  refine ⟨fun x hx => ?_, ?_, fun x hx y hy hn => ?_⟩
  · rcases List.mem_append.1 hx with hx | hx
    · exact h.on x hx
    · rw [List.mem_singleton.1 hx]; exact ho
  · rw [List.nodup_append]
    refine ⟨h.nodup, by simp, fun a ha b hb e => ?_⟩
    rw [List.mem_singleton.1 hb] at e
    have := hf a ha
    omega
  · rcases List.mem_append.1 hx with hx | hx <;> rcases List.mem_append.1 hy with hy | hy
    · exact h.far x hx y hy hn
    · rw [List.mem_singleton.1 hy]; exact hf x hx
    · rw [List.mem_singleton.1 hx]; have := hf y hy; omega
    · rw [List.mem_singleton.1 hx, List.mem_singleton.1 hy] at hn; exact absurd rfl hn
structure Hung (f : Nat → Nat) (ls : List Nat) : Prop where
  lone : Lone ls
  tree : TreeOf f rkN (f 32) (srtK (fun x => tS (f x)) ls)
section
variable {f g : Nat → Nat} {ls ks : List Nat}
theorem Hung.is {G : List Nat} (h : Hung f ls) (hG : FreeL G) (hs : ∀ x ∈ ls, x ∈ G) : TreeIs f (fun x => tS (f x)) G ls := ⟨hG, hs, h.lone.nodup, h.tree⟩
theorem TreeIs.hung {z : Nat → Nat} {G : List Nat} (h : TreeIs f z G ls) (hz : ∀ x ∈ ls, tS (f x) = z x) : Hung f ls :=
  ⟨⟨fun x hx => h.free.on x (h.sub x hx), h.nodup, fun x hx y hy hn => h.free.far (h.sub x hx) (h.sub y hy) hn⟩, by rw [srtK_congr h.nodup hz]; exact h.tree⟩
theorem Hung.congr (h : Hung f ls) (h32 : g 32 = f 32) (hg : ∀ x ∈ ls, g x = f x ∧ g (x + 8) = f (x + 8) ∧ g (x + 16) = f (x + 16)) : Hung g ls := by
  refine ⟨h.lone, ?_⟩
  rw [srtK_congr (y := fun x => tS (g x)) (z := fun x => tS (f x)) h.lone.nodup (fun x hx => by rw [(hg x hx).1]), h32]
  exact h.tree.frame fun x hx => (hg x (srtK_mem.1 hx)).2
end
def Stay (f g : Nat → Nat) (lo hi : Nat) (F : List Nat) : Prop := ∀ x, (x < lo ∨ hi ≤ x) → x ≠ 32 → (∀ y ∈ F, x ≠ y + 8 ∧ x ≠ y + 16) → g x = f x
section
variable {f g g' : Nat → Nat} {lo hi lo' hi' : Nat} {F G : List Nat}
theorem Stay.refl : Stay f f lo hi F := fun _ _ _ _ => rfl
theorem Stay.trans (h : Stay f g lo hi F) (k : Stay g g' lo hi F) : Stay f g' lo hi F := fun x a b c => (k x a b c).trans (h x a b c)
theorem Stay.grow (h : Stay f g lo hi F) (h1 : lo' ≤ lo) (h2 : hi ≤ hi') : Stay f g lo' hi' F := fun x a b c => h x (by omega) b c
theorem Stay.put {off v : Nat} (h1 : lo ≤ off) (h2 : off < hi) (hg : ∀ x, g x = if x = off then v else f x) : Stay f g lo hi F := fun x a b c => by rw [hg, if_neg (by omega)]
theorem Stay.headOk (h : Stay f g lo hi F) (hlo : 48 ≤ lo) (hF : ∀ y ∈ F, 48 ≤ y) (hh : HeadOk f) : HeadOk g := hh.congr fun q hq hn => h q (by omega) hn fun y hy => by have := hF y hy; omega
theorem Stay.top (h : Stay f g lo hi F) (hlo : 48 ≤ lo) (hF : ∀ y ∈ F, 48 ≤ y) : g 16 = f 16 := h 16 (by omega) (by decide) fun y hy => by have := hF y hy; omega
theorem Told.stay {E o e : Nat} {A : List Blk} (h : Told f E o A e) (h3 : 3776 ≤ o) (hs : Stay f g lo hi F) (hr : ∀ x ∈ A, x.off + x.s ≤ lo ∨ hi ≤ x.off)
    (hF : ∀ x ∈ A, ∀ y ∈ F, (y = x.off ∧ x.u = false) ∨ y + 48 ≤ x.off ∨ x.off + x.s ≤ y) : Told g E o A e := by
  refine h.congr fun x hx => ?_
  have h1 := (h.within x hx).1
  have h2 := (h.is x hx).size
  have h4 := hr x hx
  have h5 := hF x hx
  refine ⟨hs _ (by omega) (by omega) fun y hy => ?_, hs _ (by omega) (by omega) fun y hy => ?_, fun hu => hs _ (by omega) (by omega) fun y hy => ?_⟩
  · have := h5 y hy; omega
  · have := h5 y hy; omega
  · rcases h5 y hy with h6 | h6
    · rw [hu] at h6; exact absurd h6.2 (by decide)
    · omega
end
structure HeapF (f : Nat → Nat) (E : Nat) (bs : List Blk) : Prop where
  head : HeadOk f
  top : f 16 = E
  low : E ≤ 4800
  told : Told f E 3776 bs E
  hung : Hung f (freesB bs)
section
variable {f g : Nat → Nat} {E lo hi : Nat} {bs A X Y C : List Blk} {L L' : Nat → List Nat}
theorem SoundF.heap (h : SoundF f E bs L) : HeapF f E bs := ⟨h.head, h.top, h.low, h.told, h.tree.hung fun _ _ => rfl⟩
theorem HeapF.freeL (h : HeapF f E bs) : FreeL (freesB bs) := h.told.freeL h.low
theorem Told.free_far {o e : Nat} (h : Told f E o bs e) {x : Blk} (hx : x ∈ bs) {y : Nat} (hy : y ∈ freesB bs) : (y = x.off ∧ x.u = false) ∨ y + 48 ≤ x.off ∨ x.off + x.s ≤ y := by
  obtain ⟨c, hc, hu, rfl⟩ := freesB_mem.1 hy
  by_cases e : c.off = x.off
  · have := h.one hc hx e
    subst this
    exact .inl ⟨rfl, hu⟩
  · have h1 := h.sep hc hx e
    have h2 := (h.is c hc).size
    omega
theorem HeapF.swap (h : HeapF f E (A ++ (X ++ C))) (h1 : Told f E 3776 A lo) (h2 : Told f E hi C E) (hs : Stay f g lo hi (freesB A ++ freesB C)) (hY : Told g E lo Y hi) (hlh : lo ≤ hi) (hH : Hung g (freesB (A ++ (Y ++ C)))) : HeapF g E (A ++ (Y ++ C)) := by
  have hlo := h1.le
  have hF : ∀ y ∈ freesB A ++ freesB C, y ∈ freesB (A ++ (X ++ C)) := fun y hy => by
    rw [freesB_append, freesB_append]
    simp only [List.mem_append] at hy ⊢
    rcases hy with hy | hy
    · exact .inl hy
    · exact .inr (.inr hy)
  have h48 : ∀ y ∈ freesB A ++ freesB C, 48 ≤ y := fun y hy => by
    have := h.freeL.on y (hF y hy)
    omega
  refine ⟨hs.headOk (by omega) h48 h.head, (hs.top (by omega) h48).trans h.top, h.low, ?_, hH⟩
  refine told_append.2 ⟨lo, h1.stay (Nat.le_refl _) hs (fun x hx => .inl (h1.within x hx).2) (fun x hx y hy => h.told.free_far (by simp [hx]) (hF y hy)), told_append.2 ⟨hi, hY, h2.stay (by omega) hs (fun x hx => .inr (h2.within x hx).1) (fun x hx y hy => h.told.free_far (by simp [hx]) (hF y hy))⟩⟩
theorem Ledg.stay {U : List Nat} {F : List Nat} (h : Ledg U f L) (hs : Stay f g lo hi F) (hlo : 3776 ≤ lo) (hF : ∀ y ∈ F, 3776 ≤ y) (hU : ∀ x ∈ U, 3776 ≤ x ∧ (x + 48 ≤ lo ∨ hi ≤ x) ∧ ∀ y ∈ F, y + 48 ≤ x ∨ x + 48 ≤ y) : Ledg U g L := by
  refine h.congr (fun c hc => ?_) (fun x hx => ?_)
  · have := slotH_lt hc
    unfold slotH at *
    exact hs _ (by omega) (by omega) fun y hy => by have := hF y hy; omega
  · obtain ⟨h1, h2, h3⟩ := hU x hx
    exact ⟨hs _ (by omega) (by omega) fun y hy => by have := h3 y hy; omega, hs _ (by omega) (by omega) fun y hy => by have := h3 y hy; omega⟩
end
end Go.Proofs.YtmcnpenihoaajaaGreat
namespace Go.Proofs.YtmcnpenihoaajaaGreat
open Go.RowKit
set_option maxRecDepth 100000
section
variable {w0 w : World} {T M : Nat} {R : Option Nat} {B D : Nat} {ws : List Nat} {l : List (Nat × Nat)} {E : Nat} {bs : List Blk} {L : Nat → List Nat}
theorem fitM_is {n a i : Nat} (h : fitM bs n a = some i) : i < bs.length ∧ (bs.getD i default).u = false ∧ needOf n ≤ (bs.getD i default).s ∧ padN (bs.getD i default).off a + needOf n ≤ (bs.getD i default).s := by
  have := bestK_is (fitB (needOf n) a) bs bs.length
  unfold fitM at h
  rw [h] at this
  obtain ⟨h1, h2, _⟩ := this
  unfold fitB at h2
  simp only [Bool.and_eq_true, Bool.not_eq_true', decide_eq_true_eq] at h2
  exact ⟨h1, h2.1.1, h2.1.2, by omega⟩
end
end Go.Proofs.YtmcnpenihoaajaaGreat
namespace Go.Proofs.YtmcnpenihoaajaaGreat
open Go.RowKit
set_option maxRecDepth 100000
def HW (w0 w : World) (T : Nat) (R : Option Nat) (ws : List Nat) (E : Nat) (bs : List Blk) (L : Nat → List Nat) : Prop :=
  8 * ws.length = 4800 ∧ ∃ M B D l, Txs w0 w T M R B D ws l ∧ SoundF (txSee ws l) E bs L
def HZ (w0 w : World) (T : Nat) (R : Option Nat) (ws : List Nat) (E : Nat) (bs : List Blk) (L : Nat → List Nat) (p n : Nat) : Prop :=
  8 * ws.length = 4800 ∧ ∃ M B D l, Txs w0 w T M R B D ws l ∧ SoundF (txSee ws l) E bs L ∧ ∀ j, j < (n + 7) / 8 → txSee ws l (p + 8 * j) = 0
section
variable {w0 w w' : World} {T : Nat} {R R' : Option Nat} {ws : List Nat} {E n a i base m k p : Nat} {bs : List Blk} {L : Nat → List Nat} {v : Value} {la : Option Addr}
theorem HW.later (h : HW w0 w T R ws E bs L) (hg : w.grownBy w' none) : HW w0 w' T R ws E bs L := by
  obtain ⟨h0, M, B, D, l, h1, h2⟩ := h
  exact ⟨h0, M, B, D, l, h1.later hg, h2⟩
theorem HW.since (h : HW w0 w T R ws E bs L) : w0.grownBy w none := by
  obtain ⟨h0, M, B, D, l, h1, h2⟩ := h
  exact h1.since
theorem HZ.heap (h : HZ w0 w T R ws E bs L p n) : HW w0 w T R ws E bs L := by
  obtain ⟨h0, M, B, D, l, h1, h2, _⟩ := h
  exact ⟨h0, M, B, D, l, h1, h2⟩
theorem HZ.later (h : HZ w0 w T R ws E bs L p n) (hg : w.grownBy w' none) : HZ w0 w' T R ws E bs L p n := by
  obtain ⟨h0, M, B, D, l, h1, h2, h3⟩ := h
  exact ⟨h0, M, B, D, l, h1.later hg, h2, h3⟩
theorem HW.newR (h : HW w0 w T R ws E bs L) {g : Nat} (hg : R = some g) : g < w.heap.size := by
  obtain ⟨h0, M, B, D, l, h1, h2⟩ := h
  exact h1.tx.ltR hg
theorem HW.row (h : HW w0 w T R ws E bs L) {xs : List Nat} (ho : OwnW w' base v xs) (hb : w.heap.size ≤ base) : KW w' R base v xs :=
  ⟨ho, fun g hg e => by
    have := h.newR e
    have := (World.ownsRow.lt ho g hg).1
    omega⟩
end
end Go.Proofs.YtmcnpenihoaajaaGreat
namespace Go.Proofs.YtmcnpenihoaajaaGreat
open Go.RowKit
set_option maxRecDepth 100000
def tkP (bs : List Blk) (n a : Nat) : Nat := match fitM bs n a with | some i => gO bs i + padN (gO bs i) a + 32 | none => 0
def tkB (bs : List Blk) (owner n a : Nat) : List Blk := match fitM bs n a with | some i => takeB bs i (padN (gO bs i) a) (needOf n) owner n | none => bs
def tkL (bs : List Blk) (L : Nat → List Nat) (owner n a : Nat) : Nat → List Nat := match fitM bs n a with | some i => takeL L owner (gO bs i + padN (gO bs i) a) | none => L
section
variable {w0 w w' : World} {T : Nat} {R R' : Option Nat} {ws : List Nat} {E n a i base m k p owner : Nat} {bs : List Blk} {L : Nat → List Nat} {v : Value} {la : Option Addr}
theorem HW.other {b : Nat} {c : Array Value} {t : TypeId} (h : HW w0 w T R ws E bs L) (hb : w.heap[b]? = some (.cells c t (0, 0))) (h1 : t ≠ 109) (h2 : t ≠ 22) (h3 : t ≠ 51) (h4 : t ≠ 5) (hn : w0.heap.size ≤ b) (hg : w.grownBy w' (some b)) : HW w0 w' T R ws E bs L := by
  obtain ⟨h0, M, B, D, l, X, hS⟩ := h
  refine ⟨h0, M, B, D, l, ⟨X.tx.turned (Turned.of_grown hg) (fun k hk => ?_), grown_step X.since hg (fun i hi => .inl (by injection hi with hi; omega)), X.newT, X.newM, X.newR, X.newB, X.newD⟩, hS⟩
  injection hk with hk
  subst hk
  exact ⟨X.tx.far hb h1 h2, fun e => ne_type hb X.tx.seg.head h3 e, fun e => ne_type hb X.tx.seg.data h4 e⟩
end
end Go.Proofs.YtmcnpenihoaajaaGreat
