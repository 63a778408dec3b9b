/-
  Texts of one layer, one behind the other: memory, contracts of the functions, and what follows of them.
  Conditions: as each theorem says.
-/
import Derived.Test.YtcbdbflgfhbikaaGreatLPha
import Derived.Test.YtcbdbflgfhbikaaGreatLTrc
import Derived.Test.YtcbdbflgfhbikaaGreatLHea
import Derived.Test.YtcbdbflgfhbikaaGreatLCla
import Derived.Test.YtcbdbflgfhbikaaGreatLTrb
set_option linter.unusedVariables false
set_option linter.unusedSimpArgs false
namespace Go.Proofs.YtcbdbflgfhbikaaGreat
open Go.RowKit
structure BkIs (f : Nat → Nat) (E : Nat) (b : Blk) : Prop where
  may : mayP b.s b.u b.o
  al : b.off % 16 = 0
  lo : 3776 ≤ b.off
  hi : b.off + b.s ≤ E
  head : f b.off = packN b.s b.u b.o
  foot : f (b.off + b.s - 8) = packN b.s b.u b.o
  len : if b.u = true then f (b.off + 8) = b.n ∧ b.n + 40 ≤ b.s else b.n = 0
theorem may_bounds {s : Nat} {u : Bool} {o : Int} (h : mayP s u o) : s % 16 = 0 ∧ 48 ≤ s ∧ s ≤ 1048576 ∧ 0 ≤ o ∧ o ≤ 8 ∧ (u = false → o = 0) := by
  unfold mayP at h
  refine ⟨h.1, h.2.1, h.2.2.1, h.2.2.2.1, h.2.2.2.2.1, fun e => ?_⟩
  rcases h.2.2.2.2.2 with h1 | h1
  · rw [e] at h1; cases h1
  · exact h1
theorem unpack_int {s : Nat} {u : Bool} {o : Int} (h : mayP s u o) : packN s u o < 18446744073709551616 ∧ mayW (packN s u o) ∧ usz (packN s u o) = s ∧ uus (packN s u o) = u ∧ (uow (packN s u o) : Int) = o := by
  obtain ⟨m, rfl⟩ := Int.eq_ofNat_of_zero_le (may_bounds h).2.2.2.1
  obtain ⟨h1, h2, h3, h4, h5⟩ := unpack_pack h
  exact ⟨h1, h2, h3, h4, by rw [h5]⟩
section
variable {f g : Nat → Nat} {E : Nat} {b : Blk}
theorem BkIs.size (h : BkIs f E b) : 48 ≤ b.s ∧ b.s % 16 = 0 := ⟨(may_bounds h.may).2.1, (may_bounds h.may).1⟩
theorem BkIs.bk (h : BkIs f E b) (h16 : f 16 = E) : bkP f b.off ∧ bkAt f b.off = b := by
  obtain ⟨p1, p2, p3, p4, p5⟩ := unpack_int h.may
  have hs := h.size
  have hl := h.len
  have hlo := h.lo
  have hhi := h.hi
  refine ⟨⟨⟨by rw [h.head]; exact p2, ?_, by rw [h.head, p3]; exact h.foot⟩, ?_⟩, ?_⟩
  · rw [h.head, p3, h16]
    unfold inP
    exact ⟨h.al, h.lo, by omega, by omega⟩
  · rw [h.head, p3, p4]
    intro hu
    rw [if_pos hu] at hl
    omega
  · unfold bkAt bkL
    rw [h.head, p3, p4, p5]
    cases b with
    | mk off s u o n =>
      simp only [Blk.mk.injEq, true_and] at hl ⊢
      cases u with
      | true => simp only [if_true] at hl ⊢; exact hl.1
      | false => simpa using hl.symm
theorem BkIs.congr (h : BkIs f E b) (h1 : g b.off = f b.off) (h2 : g (b.off + b.s - 8) = f (b.off + b.s - 8)) (h3 : b.u = true → g (b.off + 8) = f (b.off + 8)) : BkIs g E b :=
  ⟨h.may, h.al, h.lo, h.hi, h1.trans h.head, h2.trans h.foot, by
    have := h.len
    split
    · rename_i e
      rw [if_pos e] at this
      rw [h3 e]
      exact this
    · rename_i e
      rwa [if_neg e] at this⟩
theorem BkIs.grow {E' : Nat} (h : BkIs f E b) (he : b.off + b.s ≤ E') : BkIs f E' b := ⟨h.may, h.al, h.lo, he, h.head, h.foot, h.len⟩
end
def Told (f : Nat → Nat) (E : Nat) : Nat → List Blk → Nat → Prop
  | off, [], e => off = e
  | off, b :: r, e => b.off = off ∧ BkIs f E b ∧ Told f E (off + b.s) r e
section
variable {f g : Nat → Nat} {E off e : Nat} {b : Blk} {bs cs : List Blk}
theorem told_cons : Told f E off (b :: bs) e ↔ b.off = off ∧ BkIs f E b ∧ Told f E (off + b.s) bs e := Iff.rfl
theorem told_append : Told f E off (bs ++ cs) e ↔ ∃ m, Told f E off bs m ∧ Told f E m cs e := by
  induction bs generalizing off with
  | nil => exact ⟨fun h => ⟨off, rfl, h⟩, fun ⟨m, h1, h2⟩ => by rw [show off = m from h1]; exact h2⟩
  | cons b r ih =>
    rw [List.cons_append, told_cons, ih]
    constructor
    · rintro ⟨h1, h2, m, h3, h4⟩; exact ⟨m, ⟨h1, h2, h3⟩, h4⟩
    · rintro ⟨m, ⟨h1, h2, h3⟩, h4⟩; exact ⟨h1, h2, m, h3, h4⟩
theorem Told.is (h : Told f E off bs e) : ∀ x ∈ bs, BkIs f E x := by
  induction bs generalizing off with
  | nil => intro x hx; cases hx
  | cons b r ih =>
    obtain ⟨h1, h2, h3⟩ := h
    intro x hx
    rcases List.mem_cons.1 hx with rfl | hx
    · exact h2
    · exact ih h3 x hx
theorem Told.le (h : Told f E off bs e) : off ≤ e := by
  induction bs generalizing off with
  | nil => exact Nat.le_of_eq h
  | cons b r ih => have := ih h.2.2; omega
theorem Told.within (h : Told f E off bs e) : ∀ x ∈ bs, off ≤ x.off ∧ x.off + x.s ≤ e := by
  induction bs generalizing off with
  | nil => intro x hx; cases hx
  | cons b r ih =>
    obtain ⟨h1, h2, h3⟩ := h
    have hle := Told.le h3
    intro x hx
    rcases List.mem_cons.1 hx with rfl | hx
    · omega
    · have := ih h3 x hx; omega
theorem Told.apart (h : Told f E off bs e) : bs.Pairwise fun x y => x.off + x.s ≤ y.off := by
  induction bs generalizing off with
  | nil => exact List.Pairwise.nil
  | cons b r ih =>
    obtain ⟨h1, h2, h3⟩ := h
    refine List.pairwise_cons.2 ⟨fun y hy => ?_, ih h3⟩
    have := (Told.within h3 y hy).1
    omega
theorem Told.congr (h : Told f E off bs e) (hg : ∀ x ∈ bs, g x.off = f x.off ∧ g (x.off + x.s - 8) = f (x.off + x.s - 8) ∧ (x.u = true → g (x.off + 8) = f (x.off + 8))) : Told g E off bs e := by
  induction bs generalizing off with
  | nil => exact h
  | cons b r ih =>
    obtain ⟨h1, h2, h3⟩ := h
    obtain ⟨g1, g2, g3⟩ := hg b (by simp)
    exact ⟨h1, h2.congr g1 g2 g3, ih h3 (fun x hx => hg x (by simp [hx]))⟩
theorem told_offs (h16 : f 16 = E) : ∀ {n : Nat} {bs : List Blk}, Told f E (offs f n) bs e → (∀ k, k < bs.length → bkP f (offs f (n + k)) ∧ bkAt f (offs f (n + k)) = bs.getD k default) ∧ offs f (n + bs.length) = e
  | n, [], h => ⟨fun k hk => absurd hk (Nat.not_lt_zero _), h⟩
  | n, b :: r, h => by
    obtain ⟨h1, h2, h3⟩ := h
    obtain ⟨k1, k2⟩ := h2.bk h16
    have hs : usz (f (offs f n)) = b.s := by
      have := congrArg Blk.s k2
      rw [← h1]
      exact this
    have e1 : offs f n + b.s = offs f (n + 1) := by
      show _ = offs f n + usz (f (offs f n))
      rw [hs]
    rw [e1] at h3
    obtain ⟨i1, i2⟩ := told_offs h16 h3
    refine ⟨fun k hk => ?_, by rw [← i2]; congr 1; simp only [List.length_cons]; omega⟩
    cases k with
    | zero => rw [Nat.add_zero, ← h1]; exact ⟨k1, k2⟩
    | succ k =>
      have := i1 k (by simpa using hk)
      rw [show n + (k + 1) = n + 1 + k by omega]
      exact this
theorem Told.walks (h : Told f E 3776 bs E) (h16 : f 16 = E) : Walks f bs.length true ∧ blks f bs.length = bs ∧ offs f bs.length = E := by
  obtain ⟨h1, h2⟩ := told_offs (n := 0) h16 h
  simp only [Nat.zero_add] at h1 h2
  refine ⟨⟨fun k hk => ⟨?_, (h1 k hk).1⟩, by rw [if_pos rfl, h16, h2]; exact Nat.le_refl _⟩, ?_, h2⟩
  · exact (bk_ge (h1 k hk).1).2.2.1
  · apply List.ext_getElem
    · exact blks_len _ _
    · intro i i1 i2
      have a1 := blks_get f (N := bs.length) (k := i) (by rwa [blks_len] at i1)
      rw [(h1 i i2).2, List.getD_eq_getElem?_getD, List.getD_eq_getElem?_getD, List.getElem?_eq_getElem i1, List.getElem?_eq_getElem i2] at a1
      exact a1
end
def freesB (bs : List Blk) : List Nat := (bs.filter fun b => !b.u).map Blk.off
def usedB (bs : List Blk) : List Nat := (bs.filter fun b => b.u).map Blk.off
theorem freesB_append (bs cs : List Blk) : freesB (bs ++ cs) = freesB bs ++ freesB cs := by simp [freesB]
theorem usedB_append (bs cs : List Blk) : usedB (bs ++ cs) = usedB bs ++ usedB cs := by simp [usedB]
theorem freesB_mem {bs : List Blk} {x : Nat} : x ∈ freesB bs ↔ ∃ b ∈ bs, b.u = false ∧ b.off = x := by
  unfold freesB
  rw [List.mem_map]
  constructor
  · rintro ⟨b, hb, h⟩
    obtain ⟨h1, h2⟩ := List.mem_filter.1 hb
    exact ⟨b, h1, by simpa using h2, h⟩
  · rintro ⟨b, h1, h2, h3⟩
    exact ⟨b, List.mem_filter.2 ⟨h1, by simp [h2]⟩, h3⟩
theorem usedB_mem {bs : List Blk} {x : Nat} : x ∈ usedB bs ↔ ∃ b ∈ bs, b.u = true ∧ b.off = x := by
  unfold usedB
  rw [List.mem_map]
  constructor
  · rintro ⟨b, hb, h⟩
    obtain ⟨h1, h2⟩ := List.mem_filter.1 hb
    exact ⟨b, h1, h2, h⟩
  · rintro ⟨b, h1, h2, h3⟩
    exact ⟨b, List.mem_filter.2 ⟨h1, h2⟩, h3⟩
section
variable {f g : Nat → Nat} {E off e : Nat} {b : Blk} {bs cs : List Blk}
theorem Told.far48 (h : Told f E off bs e) : bs.Pairwise fun x y => x.off + 48 ≤ y.off :=
  h.apart.imp_of_mem fun hx _ hxy => by
    have := (h.is _ hx).size
    omega
theorem Told.freeL (h : Told f E off bs e) (hE : E ≤ 4800) : FreeL (freesB bs) := by
  refine ⟨fun x hx => ?_, ?_⟩
  · obtain ⟨b, hb, _, rfl⟩ := freesB_mem.1 hx
    have hi := h.is b hb
    have := hi.size
    have := hi.al
    have := hi.lo
    have := hi.hi
    omega
  · unfold freesB
    rw [List.pairwise_map]
    exact h.far48.filter _
theorem Told.grid (h : Told f E off bs e) (hE : E ≤ 4800) : Grid (usedB bs) := by
  have hp : (usedB bs).Pairwise fun x y => x + 48 ≤ y := by
    unfold usedB
    rw [List.pairwise_map]
    exact h.far48.filter _
  refine ⟨fun x hx => ?_, fun x hx y hy hn => far_of hp hx hy hn⟩
  obtain ⟨b, hb, _, rfl⟩ := usedB_mem.1 hx
  have hi := h.is b hb
  have := hi.size
  have := hi.al
  have := hi.lo
  have := hi.hi
  omega
theorem Told.one (h : Told f E off bs e) {x y : Blk} (hx : x ∈ bs) (hy : y ∈ bs) (ho : x.off = y.off) : x = y := by
  induction bs generalizing off with
  | nil => cases hx
  | cons b r ih =>
    obtain ⟨h1, h2, h3⟩ := h
    have hs := h2.size
    rcases List.mem_cons.1 hx with ex | hx'
    · rcases List.mem_cons.1 hy with ey | hy'
      · rw [ex, ey]
      · have := (Told.within h3 y hy').1
        rw [ex] at ho
        omega
    · rcases List.mem_cons.1 hy with ey | hy'
      · have := (Told.within h3 x hx').1
        rw [ey] at ho
        omega
      · exact ih h3 hx' hy'
theorem Told.sep (h : Told f E off bs e) {x y : Blk} (hx : x ∈ bs) (hy : y ∈ bs) (hn : x.off ≠ y.off) : x.off + x.s ≤ y.off ∨ y.off + y.s ≤ x.off := by
  induction bs generalizing off with
  | nil => cases hx
  | cons b r ih =>
    obtain ⟨h1, h2, h3⟩ := h
    rcases List.mem_cons.1 hx with ex | hx'
    · rcases List.mem_cons.1 hy with ey | hy'
      · rw [ex, ey] at hn; exact absurd rfl hn
      · have := (Told.within h3 y hy').1
        rw [ex]
        omega
    · rcases List.mem_cons.1 hy with ey | hy'
      · have := (Told.within h3 x hx').1
        rw [ey]
        omega
      · exact ih h3 hx' hy'
end
def Mg : List Blk → Prop
  | [] => True
  | [_] => True
  | b :: c :: r => (b.u = true ∨ c.u = true) ∧ Mg (c :: r)
theorem mg_cons {b c : Blk} {r : List Blk} : Mg (b :: c :: r) ↔ (b.u = true ∨ c.u = true) ∧ Mg (c :: r) := Iff.rfl
theorem Mg.tail {b : Blk} {r : List Blk} (h : Mg (b :: r)) : Mg r := by
  cases r with
  | nil => trivial
  | cons c r => exact h.2
theorem mg_append : ∀ {bs : List Blk} {cs : List Blk}, Mg (bs ++ cs) ↔ Mg bs ∧ Mg cs ∧ (∀ b c, bs.getLast? = some b → cs.head? = some c → b.u = true ∨ c.u = true)
  | [], cs => by simp [Mg]
  | [b], [] => by simp [Mg]
  | [b], c :: r => by simp [Mg, and_comm]
  | b :: c :: r, cs => by
    have ih := mg_append (bs := c :: r) (cs := cs)
    rw [List.cons_append, List.cons_append, mg_cons, mg_cons, ← List.cons_append, ih, List.getLast?_cons_cons]
    constructor
    · rintro ⟨h1, h2, h3, h4⟩; exact ⟨⟨h1, h2⟩, h3, h4⟩
    · rintro ⟨⟨h1, h2⟩, h3, h4⟩; exact ⟨h1, h2, h3, h4⟩
def HeadOk (f : Nat → Nat) : Prop := fitsP (f 16) 4800 ∧ f 0 = 7161130718081542961 ∧ f 8 = 1 ∧ f 40 = sumN (f 16)
theorem headOk_chk {ws : List Nat} {l : List (Nat × Nat)} (hl : 8 * ws.length = 4800) (h : HeadOk (txSee ws l)) : chkN ws l = 0 := by
  have hc : chkP ws l := by
    unfold chkP
    rw [hl]
    exact h
  exact if_pos hc
theorem HeadOk.congr {f g : Nat → Nat} (h : HeadOk f) (hg : ∀ q, q < 48 → q ≠ 32 → g q = f q) : HeadOk g := by
  unfold HeadOk at h ⊢
  rw [hg 16 (by decide) (by decide), hg 0 (by decide) (by decide), hg 8 (by decide) (by decide), hg 40 (by decide) (by decide)]
  exact h
structure SoundF (f : Nat → Nat) (E : Nat) (bs : List Blk) (L : Nat → List Nat) : Prop where
  head : HeadOk f
  top : f 16 = E
  low : E ≤ 4800
  told : Told f E 3776 bs E
  merged : Mg bs
  tree : TreeIs f (fun x => tS (f x)) (freesB bs) (freesB bs)
  ledg : Ledg (usedB bs) f L
  whose : ∀ b ∈ bs, b.u = true → ∀ c, c < 8 → (b.off ∈ L c ↔ b.o = (c : Int) + 1)
section
variable {f g : Nat → Nat} {E : Nat} {bs : List Blk} {L : Nat → List Nat} {b : Blk}
theorem SoundF.freeL (h : SoundF f E bs L) : FreeL (freesB bs) := h.told.freeL h.low
theorem SoundF.grid (h : SoundF f E bs L) : Grid (usedB bs) := h.told.grid h.low
theorem SoundF.walks (h : SoundF f E bs L) : Walks f bs.length true ∧ blks f bs.length = bs ∧ offs f bs.length = E := h.told.walks h.top
theorem BkIs.key (h : BkIs f E b) : tS (f b.off) = b.s := by
  obtain ⟨_, p2, p3, _⟩ := unpack_int h.may
  unfold tS
  rw [h.head, if_pos p2, p3]
theorem SoundF.bed {ws : List Nat} {l : List (Nat × Nat)} (h : SoundF (txSee ws l) E bs L) (hl : 8 * ws.length = 4800) : Bed ws l (fun x => tS (txSee ws l x)) (freesB bs) := ⟨h.freeL, hl, fun _ _ => rfl⟩
end
theorem TreeIs.field {f : Nat → Nat} {z : Nat → Nat} {F G l : List Nat} (h : TreeIs f z F l) (hG : FreeL G) (hs : ∀ x, x ∈ l → x ∈ G) : TreeIs f z G l := ⟨hG, hs, h.nodup, h.tree⟩
theorem TreeIs.congr {f g : Nat → Nat} {z : Nat → Nat} {F l : List Nat} (h : TreeIs f z F l) (h32 : g 32 = f 32) (hg : ∀ x ∈ l, g (x + 8) = f (x + 8) ∧ g (x + 16) = f (x + 16)) : TreeIs g z F l :=
  ⟨h.free, h.sub, h.nodup, by rw [h32]; exact h.tree.frame fun x hx => hg x (srtK_mem.1 hx)⟩
theorem Ledg.congr {U : List Nat} {f g : Nat → Nat} {L : Nat → List Nat} (h : Ledg U f L) (hs : ∀ c, c < 8 → g (slotH c) = f (slotH c)) (hg : ∀ x ∈ U, g (x + 16) = f (x + 16) ∧ g (x + 24) = f (x + 24)) : Ledg U g L :=
  ⟨h.on, h.once, h.apart, fun c hc => by rw [hs c hc]; exact h.head c hc, fun c hc => (h.strung c hc).congr fun x hx => hg x (h.on c hc x hx)⟩
theorem Ledg.field {U V : List Nat} {f : Nat → Nat} {L : Nat → List Nat} (h : Ledg U f L) (hs : ∀ c, c < 8 → ∀ x ∈ L c, x ∈ V) : Ledg V f L := ⟨hs, h.once, h.apart, h.head, h.strung⟩
end Go.Proofs.YtcbdbflgfhbikaaGreat
namespace Go.Proofs.YtcbdbflgfhbikaaGreat
open Go.RowKit
def alignP (a : Nat) : Prop := a = 16 ∨ a = 32 ∨ a = 64 ∨ a = 128 ∨ a = 256 ∨ a = 512 ∨ a = 1024 ∨ a = 2048 ∨ a = 4096
instance (a : Nat) : Decidable (alignP a) := by unfold alignP; infer_instance
theorem alignP.le {a : Nat} (h : alignP a) : 16 ≤ a ∧ a ≤ 4096 ∧ a % 16 = 0 := by unfold alignP at h; omega
def padN (off a : Nat) : Nat := if (off + 32) % a = 0 then 0 else if 48 ≤ a - (off + 32) % a then a - (off + 32) % a else 2 * a - (off + 32) % a
def padIs (off a n : Nat) : Prop := (off + 32 + n) % a = 0 ∧ (n = 0 ∨ 48 ≤ n)
theorem padN_is {off a : Nat} (ha : alignP a) (ho : off % 16 = 0) : padIs off a (padN off a) := by
  unfold padIs padN
  rcases ha with rfl | rfl | rfl | rfl | rfl | rfl | rfl | rfl | rfl <;> split <;> first | omega | (split <;> omega)
theorem padN_least {off a n : Nat} (ha : alignP a) (ho : off % 16 = 0) (hn : n % 16 = 0) (h : padIs off a n) : padN off a ≤ n := by
  unfold padIs at h
  unfold padN
  rcases ha with rfl | rfl | rfl | rfl | rfl | rfl | rfl | rfl | rfl <;> split <;> first | omega | (split <;> omega)
theorem padN_al {off a : Nat} (ha : alignP a) (ho : off % 16 = 0) : padN off a % 16 = 0 ∧ padN off a < 8192 := by
  unfold padN
  rcases ha with rfl | rfl | rfl | rfl | rfl | rfl | rfl | rfl | rfl <;> split <;> first | omega | (split <;> omega)
def fitB (need a : Nat) (b : Blk) : Bool := !b.u && decide (need ≤ b.s) && decide (padN b.off a ≤ b.s - need)
def bestK (p : Blk → Bool) (bs : List Blk) : Nat → Option Nat
  | 0 => none
  | k + 1 =>
    match bestK p bs k with
    | none => if p (bs.getD k default) = true then some k else none
    | some i => if p (bs.getD k default) = true ∧ (bs.getD k default).s < (bs.getD i default).s then some k else some i
def BestIs (p : Blk → Bool) (bs : List Blk) (k : Nat) : Option Nat → Prop
  | none => ∀ j, j < k → p (bs.getD j default) = false
  | some i => i < k ∧ p (bs.getD i default) = true ∧ ∀ j, j < k → p (bs.getD j default) = true → (bs.getD i default).s < (bs.getD j default).s ∨ ((bs.getD i default).s = (bs.getD j default).s ∧ i ≤ j)
theorem bestK_is (p : Blk → Bool) (bs : List Blk) : ∀ k, BestIs p bs k (bestK p bs k)
  | 0 => fun j hj => absurd hj (Nat.not_lt_zero _)
  | k + 1 => by
    have ih := bestK_is p bs k
    unfold bestK
    cases e : bestK p bs k with
    | none =>
      rw [e] at ih
      simp only
      by_cases hp : p (bs.getD k default) = true
      · rw [if_pos hp]
        refine ⟨Nat.lt_succ_self k, hp, fun j hj hpj => ?_⟩
        rcases Nat.lt_succ_iff_lt_or_eq.1 hj with h | rfl
        · rw [ih j h] at hpj; cases hpj
        · exact .inr ⟨rfl, Nat.le_refl _⟩
      · rw [if_neg hp]
        intro j hj
        rcases Nat.lt_succ_iff_lt_or_eq.1 hj with h | rfl
        · exact ih j h
        · simpa using hp
    | some i =>
      rw [e] at ih
      obtain ⟨h1, h2, h3⟩ := ih
      simp only
      by_cases hp : p (bs.getD k default) = true ∧ (bs.getD k default).s < (bs.getD i default).s
      · rw [if_pos hp]
        refine ⟨Nat.lt_succ_self k, hp.1, fun j hj hpj => ?_⟩
        rcases Nat.lt_succ_iff_lt_or_eq.1 hj with h | rfl
        · rcases h3 j h hpj with h4 | h4
          · exact .inl (by omega)
          · exact .inl (by omega)
        · exact .inr ⟨rfl, Nat.le_refl _⟩
      · rw [if_neg hp]
        refine ⟨by omega, h2, fun j hj hpj => ?_⟩
        rcases Nat.lt_succ_iff_lt_or_eq.1 hj with h | rfl
        · exact h3 j h hpj
        · have : ¬ (bs.getD j default).s < (bs.getD i default).s := fun h => hp ⟨hpj, h⟩
          omega
theorem BestIs.only {p : Blk → Bool} {bs : List Blk} {k : Nat} {x y : Option Nat} (h : BestIs p bs k x) (h' : BestIs p bs k y) : x = y := by
  cases x with
  | none =>
    cases y with
    | none => rfl
    | some j => have := h j h'.1; rw [h'.2.1] at this; cases this
  | some i =>
    cases y with
    | none => have := h' i h.1; rw [h.2.1] at this; cases this
    | some j =>
      have h1 := h.2.2 j h'.1 h'.2.1
      have h2 := h'.2.2 i h.1 h.2.1
      congr 1
      omega
def fitM (bs : List Blk) (n a : Nat) : Option Nat := bestK (fitB (needOf n) a) bs bs.length
def fitErr (bs : List Blk) (n a : Nat) : Nat := if ¬ alignP a then 1 else if 18446744073709551560 < n then 2 else if fitM bs n a = none then 3 else 0
def freeB (off s : Nat) : Blk := ⟨off, s, false, 0, 0⟩
def cutB (b : Blk) (pad need owner n : Nat) : List Blk :=
  (if pad = 0 then [] else [freeB b.off pad]) ++ (⟨b.off + pad, if b.s - pad - need < 48 then b.s - pad else need, true, owner, n⟩ :: if b.s - pad - need < 48 then [] else [freeB (b.off + pad + need) (b.s - pad - need)])
def takeB (bs : List Blk) (i pad need owner n : Nat) : List Blk := bs.take i ++ cutB (bs.getD i default) pad need owner n ++ bs.drop (i + 1)
def takeL (L : Nat → List Nat) (owner off : Nat) : Nat → List Nat := if owner = 0 then L else setL L (owner - 1) (off :: L (owner - 1))
end Go.Proofs.YtcbdbflgfhbikaaGreat
namespace Go.Proofs.YtcbdbflgfhbikaaGreat
open Go.RowKit
structure Lone (ls : List Nat) : Prop where
  on : ∀ x ∈ ls, x % 16 = 0 ∧ 3776 ≤ x ∧ x + 48 ≤ 4800
  nodup : ls.Nodup
  far : ∀ x ∈ ls, ∀ y ∈ ls, x ≠ y → x + 48 ≤ y ∨ y + 48 ≤ x
def upL (ls : List Nat) : List Nat := srtK (fun _ => 0) ls
theorem upL_mem {ls : List Nat} {x : Nat} : x ∈ upL ls ↔ x ∈ ls := srtK_mem
theorem Lone.free {ls : List Nat} (h : Lone ls) : FreeL (upL ls) := by
  refine ⟨fun x hx => h.on x (upL_mem.1 hx), ?_⟩
  have hr : Rising (fun _ => 0) (upL ls) := srtK_rising h.nodup
  refine List.Pairwise.imp_of_mem (fun {a b} ha hb hab => ?_) hr
  have hlt : a < b := by unfold blkLt keyLt at hab; simp only [Nat.lt_irrefl, false_or, true_and] at hab; exact hab
  have := h.far a (upL_mem.1 ha) b (upL_mem.1 hb) (by omega)
  omega
theorem FreeL.lone {ls : List Nat} (h : FreeL ls) : Lone ls := ⟨h.on, h.nodup, fun x hx y hy hn => h.far hx hy hn⟩
theorem Lone.perm {ls ks : List Nat} (h : Lone ls) (hp : ls.Perm ks) : Lone ks :=
  ⟨fun x hx => h.on x (hp.mem_iff.2 hx), hp.nodup_iff.1 h.nodup, fun x hx y hy => h.far x (hp.mem_iff.2 hx) y (hp.mem_iff.2 hy)⟩
theorem Lone.filter {ls : List Nat} (h : Lone ls) (p : Nat → Bool) : Lone (ls.filter p) :=
  ⟨fun x hx => h.on x (List.mem_filter.1 hx).1, h.nodup.filter p, fun x hx y hy => h.far x (List.mem_filter.1 hx).1 y (List.mem_filter.1 hy).1⟩
theorem Lone.snoc {ls : List Nat} {o : Nat} (h : Lone ls) (ho : o % 16 = 0 ∧ 3776 ≤ o ∧ o + 48 ≤ 4800) (hf : ∀ y ∈ ls, y + 48 ≤ o ∨ o + 48 ≤ y) : Lone (ls ++ [o]) := by
  refine ⟨fun x hx => ?_, ?_, fun x hx y hy hn => ?_⟩
  · rcases List.mem_append.1 hx with hx | hx
    · exact h.on x hx
    · rw [List.mem_singleton.1 hx]; exact ho
  · rw [List.nodup_append]
    refine ⟨h.nodup, by simp, fun a ha b hb e => ?_⟩
    rw [List.mem_singleton.1 hb] at e
    have := hf a ha
    omega
  · rcases List.mem_append.1 hx with hx | hx <;> rcases List.mem_append.1 hy with hy | hy
    · exact h.far x hx y hy hn
    · rw [List.mem_singleton.1 hy]; exact hf x hx
    · rw [List.mem_singleton.1 hx]; have := hf y hy; omega
    · rw [List.mem_singleton.1 hx, List.mem_singleton.1 hy] at hn; exact absurd rfl hn
structure Hung (f : Nat → Nat) (ls : List Nat) : Prop where
  lone : Lone ls
  tree : TreeOf f rkN (f 32) (srtK (fun x => tS (f x)) ls)
section
variable {f g : Nat → Nat} {ls ks : List Nat}
theorem Hung.is {G : List Nat} (h : Hung f ls) (hG : FreeL G) (hs : ∀ x ∈ ls, x ∈ G) : TreeIs f (fun x => tS (f x)) G ls := ⟨hG, hs, h.lone.nodup, h.tree⟩
theorem TreeIs.hung {z : Nat → Nat} {G : List Nat} (h : TreeIs f z G ls) (hz : ∀ x ∈ ls, tS (f x) = z x) : Hung f ls :=
  ⟨⟨fun x hx => h.free.on x (h.sub x hx), h.nodup, fun x hx y hy hn => h.free.far (h.sub x hx) (h.sub y hy) hn⟩, by rw [srtK_congr h.nodup hz]; exact h.tree⟩
theorem Hung.perm (h : Hung f ls) (hp : ls.Perm ks) : Hung f ks := ⟨h.lone.perm hp, by rw [← srtK_of_perm hp h.lone.nodup]; exact h.tree⟩
theorem Hung.congr (h : Hung f ls) (h32 : g 32 = f 32) (hg : ∀ x ∈ ls, g x = f x ∧ g (x + 8) = f (x + 8) ∧ g (x + 16) = f (x + 16)) : Hung g ls := by
  refine ⟨h.lone, ?_⟩
  rw [srtK_congr (y := fun x => tS (g x)) (z := fun x => tS (f x)) h.lone.nodup (fun x hx => by rw [(hg x hx).1]), h32]
  exact h.tree.frame fun x hx => (hg x (srtK_mem.1 hx)).2
end
def Stay (f g : Nat → Nat) (lo hi : Nat) (F : List Nat) : Prop := ∀ x, (x < lo ∨ hi ≤ x) → x ≠ 32 → (∀ y ∈ F, x ≠ y + 8 ∧ x ≠ y + 16) → g x = f x
section
variable {f g g' : Nat → Nat} {lo hi lo' hi' : Nat} {F G : List Nat}
theorem Stay.refl : Stay f f lo hi F := fun _ _ _ _ => rfl
theorem Stay.trans (h : Stay f g lo hi F) (k : Stay g g' lo hi F) : Stay f g' lo hi F := fun x a b c => (k x a b c).trans (h x a b c)
theorem Stay.grow (h : Stay f g lo hi F) (h1 : lo' ≤ lo) (h2 : hi ≤ hi') : Stay f g lo' hi' F := fun x a b c => h x (by omega) b c
theorem Stay.more (h : Stay f g lo hi F) (hs : ∀ y ∈ F, y ∈ G) : Stay f g lo hi G := fun x a b c => h x a b fun y hy => c y (hs y hy)
theorem Stay.less (h : Stay f g lo hi F) (hs : ∀ y ∈ F, y ∈ G ∨ (lo ≤ y + 8 ∧ y + 16 < hi)) : Stay f g lo hi G := fun x a b c => h x a b fun y hy => by
  rcases hs y hy with h1 | h1
  · exact c y h1
  · omega
theorem Stay.of_kept (h : Kept F f g) : Stay f g lo hi F := fun x a b c => h x b c
theorem Stay.put {off v : Nat} (h1 : lo ≤ off) (h2 : off < hi) (hg : ∀ x, g x = if x = off then v else f x) : Stay f g lo hi F := fun x a b c => by rw [hg, if_neg (by omega)]
theorem Stay.headOk (h : Stay f g lo hi F) (hlo : 48 ≤ lo) (hF : ∀ y ∈ F, 48 ≤ y) (hh : HeadOk f) : HeadOk g := hh.congr fun q hq hn => h q (by omega) hn fun y hy => by have := hF y hy; omega
theorem Stay.top (h : Stay f g lo hi F) (hlo : 48 ≤ lo) (hF : ∀ y ∈ F, 48 ≤ y) : g 16 = f 16 := h 16 (by omega) (by decide) fun y hy => by have := hF y hy; omega
theorem Told.stay {E o e : Nat} {A : List Blk} (h : Told f E o A e) (h3 : 3776 ≤ o) (hs : Stay f g lo hi F) (hr : ∀ x ∈ A, x.off + x.s ≤ lo ∨ hi ≤ x.off)
    (hF : ∀ x ∈ A, ∀ y ∈ F, (y = x.off ∧ x.u = false) ∨ y + 48 ≤ x.off ∨ x.off + x.s ≤ y) : Told g E o A e := by
  refine h.congr fun x hx => ?_
  have h1 := (h.within x hx).1
  have h2 := (h.is x hx).size
  have h4 := hr x hx
  have h5 := hF x hx
  refine ⟨hs _ (by omega) (by omega) fun y hy => ?_, hs _ (by omega) (by omega) fun y hy => ?_, fun hu => hs _ (by omega) (by omega) fun y hy => ?_⟩
  · have := h5 y hy; omega
  · have := h5 y hy; omega
  · rcases h5 y hy with h6 | h6
    · rw [hu] at h6; exact absurd h6.2 (by decide)
    · omega
end
structure HeapF (f : Nat → Nat) (E : Nat) (bs : List Blk) : Prop where
  head : HeadOk f
  top : f 16 = E
  low : E ≤ 4800
  told : Told f E 3776 bs E
  hung : Hung f (freesB bs)
section
variable {f g : Nat → Nat} {E lo hi : Nat} {bs A X Y C : List Blk} {L L' : Nat → List Nat}
theorem SoundF.heap (h : SoundF f E bs L) : HeapF f E bs := ⟨h.head, h.top, h.low, h.told, h.tree.hung fun _ _ => rfl⟩
theorem HeapF.freeL (h : HeapF f E bs) : FreeL (freesB bs) := h.told.freeL h.low
theorem HeapF.grid (h : HeapF f E bs) : Grid (usedB bs) := h.told.grid h.low
theorem HeapF.sound (h : HeapF f E bs) (hm : Mg bs) (hl : Ledg (usedB bs) f L) (hw : ∀ b ∈ bs, b.u = true → ∀ c, c < 8 → (b.off ∈ L c ↔ b.o = (c : Int) + 1)) : SoundF f E bs L :=
  ⟨h.head, h.top, h.low, h.told, hm, h.hung.is h.freeL (fun _ hx => hx), hl, hw⟩
theorem Told.free_far {o e : Nat} (h : Told f E o bs e) {x : Blk} (hx : x ∈ bs) {y : Nat} (hy : y ∈ freesB bs) : (y = x.off ∧ x.u = false) ∨ y + 48 ≤ x.off ∨ x.off + x.s ≤ y := by
  obtain ⟨c, hc, hu, rfl⟩ := freesB_mem.1 hy
  by_cases e : c.off = x.off
  · have := h.one hc hx e
    subst this
    exact .inl ⟨rfl, hu⟩
  · have h1 := h.sep hc hx e
    have h2 := (h.is c hc).size
    omega
theorem Told.used_far {o e : Nat} (h : Told f E o bs e) {x : Blk} (hx : x ∈ bs) {y : Nat} (hy : y ∈ usedB bs) : (y = x.off ∧ x.u = true) ∨ y + 48 ≤ x.off ∨ x.off + x.s ≤ y := by
  obtain ⟨c, hc, hu, rfl⟩ := usedB_mem.1 hy
  by_cases e : c.off = x.off
  · have := h.one hc hx e
    subst this
    exact .inl ⟨rfl, hu⟩
  · have h1 := h.sep hc hx e
    have h2 := (h.is c hc).size
    omega
theorem HeapF.swap (h : HeapF f E (A ++ (X ++ C))) (h1 : Told f E 3776 A lo) (h2 : Told f E hi C E) (hs : Stay f g lo hi (freesB A ++ freesB C)) (hY : Told g E lo Y hi) (hlh : lo ≤ hi) (hH : Hung g (freesB (A ++ (Y ++ C)))) : HeapF g E (A ++ (Y ++ C)) := by
  have hlo := h1.le
  have hF : ∀ y ∈ freesB A ++ freesB C, y ∈ freesB (A ++ (X ++ C)) := fun y hy => by
    rw [freesB_append, freesB_append]
    simp only [List.mem_append] at hy ⊢
    rcases hy with hy | hy
    · exact .inl hy
    · exact .inr (.inr hy)
  have h48 : ∀ y ∈ freesB A ++ freesB C, 48 ≤ y := fun y hy => by
    have := h.freeL.on y (hF y hy)
    omega
  refine ⟨hs.headOk (by omega) h48 h.head, (hs.top (by omega) h48).trans h.top, h.low, ?_, hH⟩
  refine told_append.2 ⟨lo, h1.stay (Nat.le_refl _) hs (fun x hx => .inl (h1.within x hx).2) (fun x hx y hy => h.told.free_far (by simp [hx]) (hF y hy)), told_append.2 ⟨hi, hY, h2.stay (by omega) hs (fun x hx => .inr (h2.within x hx).1) (fun x hx y hy => h.told.free_far (by simp [hx]) (hF y hy))⟩⟩
theorem Ledg.stay {U : List Nat} {F : List Nat} (h : Ledg U f L) (hs : Stay f g lo hi F) (hlo : 3776 ≤ lo) (hF : ∀ y ∈ F, 3776 ≤ y) (hU : ∀ x ∈ U, 3776 ≤ x ∧ (x + 48 ≤ lo ∨ hi ≤ x) ∧ ∀ y ∈ F, y + 48 ≤ x ∨ x + 48 ≤ y) : Ledg U g L := by
  refine h.congr (fun c hc => ?_) (fun x hx => ?_)
  · have := slotH_lt hc
    unfold slotH at *
    exact hs _ (by omega) (by omega) fun y hy => by have := hF y hy; omega
  · obtain ⟨h1, h2, h3⟩ := hU x hx
    exact ⟨hs _ (by omega) (by omega) fun y hy => by have := h3 y hy; omega, hs _ (by omega) (by omega) fun y hy => by have := h3 y hy; omega⟩
def LStay (f g : Nat → Nat) (U : List Nat) : Prop := ∀ x, (∀ c, c < 8 → x ≠ slotH c) → (∀ q ∈ U, x ≠ q + 16 ∧ x ≠ q + 24) → g x = f x
def Held (f g : Nat → Nat) (bs : List Blk) : Prop := ∀ b ∈ bs, b.u = true → ∀ x, b.off + 32 ≤ x → x < b.off + b.s - 8 → g x = f x
theorem Held.refl {f : Nat → Nat} {bs : List Blk} : Held f f bs := fun _ _ _ _ _ _ => rfl
theorem Held.trans {f g g' : Nat → Nat} {bs : List Blk} (h : Held f g bs) (k : Held g g' bs) : Held f g' bs := fun b hb hu x h1 h2 => (k b hb hu x h1 h2).trans (h b hb hu x h1 h2)
theorem Held.less {f g : Nat → Nat} {bs cs : List Blk} (h : Held f g bs) (hs : ∀ b ∈ cs, b ∈ bs) : Held f g cs := fun b hb => h b (hs b hb)
theorem Held.stay {f g f0 : Nat → Nat} {lo hi E o e : Nat} {F : List Nat} {bs cs : List Blk} (hT : Told f0 E o bs e) (ho : 3776 ≤ o) (hs : Stay f g lo hi F) (hc : ∀ b ∈ cs, b ∈ bs) (hF : ∀ y ∈ F, y ∈ freesB bs) (hr : ∀ b ∈ cs, b.u = true → b.off + b.s ≤ lo ∨ hi ≤ b.off) : Held f g cs := fun b hb hu x h1 h2 => by
  have h3 := hr b hb hu
  have h4 := (hT.within b (hc b hb)).1
  refine hs x (by omega) (by omega) fun y hy => ?_
  obtain ⟨c, hcb, hcu, rfl⟩ := freesB_mem.1 (hF y hy)
  have hne : c.off ≠ b.off := fun e => by
    have := hT.one hcb (hc b hb) e
    rw [this, hu] at hcu
    cases hcu
  have h5 := hT.sep hcb (hc b hb) hne
  have h6 := (hT.is c hcb).size
  omega
theorem Held.lists {f g f0 : Nat → Nat} {E o e : Nat} {U : List Nat} {bs cs : List Blk} (hT : Told f0 E o bs e) (ho : 3776 ≤ o) (hs : LStay f g U) (hc : ∀ b ∈ cs, b ∈ bs) (hU : ∀ q ∈ U, ∀ b ∈ cs, b.u = true → q = b.off ∨ q + 48 ≤ b.off ∨ b.off + b.s ≤ q) : Held f g cs := fun b hb hu x h1 h2 => by
  have h4 := (hT.within b (hc b hb)).1
  refine hs x (fun c hc => ?_) fun q hq => ?_
  · have := slotH_lt hc; omega
  · have := hU q hq b hb hu; omega
theorem HeapF.relist (h : HeapF f E bs) (hs : LStay f g (usedB bs)) : HeapF g E bs := by
  have hU := h.grid
  have h48 : ∀ x, x < 64 → g x = f x := fun x hx => hs x (fun c hc => by unfold slotH; omega) (fun q hq => by have := hU.lo q hq; omega)
  have hfree : ∀ x ∈ freesB bs, g x = f x ∧ g (x + 8) = f (x + 8) ∧ g (x + 16) = f (x + 16) := fun x hx => by
    have h1 := h.freeL.on x hx
    obtain ⟨b, hb, hu, rfl⟩ := freesB_mem.1 hx
    have hz := (h.told.is b hb).size
    have hq : ∀ q ∈ usedB bs, q + 48 ≤ b.off ∨ b.off + b.s ≤ q := fun q hq => by
      rcases h.told.used_far hb hq with h2 | h2
      · rw [hu] at h2; exact absurd h2.2 (by decide)
      · exact h2
    refine ⟨hs _ (fun c hc => ?_) fun q hq' => ?_, hs _ (fun c hc => ?_) fun q hq' => ?_, hs _ (fun c hc => ?_) fun q hq' => ?_⟩
    · have := slotH_lt hc; omega
    · have := hq q hq'; omega
    · have := slotH_lt hc; omega
    · have := hq q hq'; omega
    · have := slotH_lt hc; omega
    · have := hq q hq'; omega
  refine ⟨h.head.congr fun q hq _ => h48 q (by omega), (h48 16 (by decide)).trans h.top, h.low, h.told.congr fun x hx => ?_, h.hung.congr (h48 32 (by decide)) hfree⟩
  have hb := h.told.is x hx
  have hz := hb.size
  have hl := hb.lo
  have hq : ∀ q ∈ usedB bs, q = x.off ∨ q + 48 ≤ x.off ∨ x.off + x.s ≤ q := fun q hq => by
    rcases h.told.used_far hx hq with h2 | h2
    · exact .inl h2.1
    · exact .inr h2
  refine ⟨hs _ (fun c hc => ?_) fun q hq' => ?_, hs _ (fun c hc => ?_) fun q hq' => ?_, fun _ => hs _ (fun c hc => ?_) fun q hq' => ?_⟩
  · have := slotH_lt hc; omega
  · have := hq q hq'; omega
  · have := slotH_lt hc; omega
  · have := hq q hq'; omega
  · have := slotH_lt hc; omega
  · have := hq q hq'; omega
theorem LStay.link {U : List Nat} {c off : Nat} (h : Ledg U f L) (hU : Grid U) (hc : c < 8) (ho : off ∈ U) : LStay f (linkF f c off) U := fun x h1 h2 => by
  unfold linkF
  have hx := h2 off ho
  rw [if_neg (h1 c hc), if_neg (fun e => (h2 _ (h.head_on hU hc e.1).1).2 e.2), if_neg hx.2, if_neg hx.1]
end
end Go.Proofs.YtcbdbflgfhbikaaGreat
