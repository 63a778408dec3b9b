/-
  Texts of one layer, one behind the other: memory, contracts of the functions, and what follows of them.
  Conditions: as each theorem says.
-/
import Derived.Test.YtmcnpenihoaajaaGreatLZza
import Derived.Maps.AppendAt
import Derived.Deep.RegionHeld3
import Derived.Test.YtmcnpenihoaajaaGreatLRea
import Derived.Test.YtmcnpenihoaajaaGreatLCaa
import Derived.Test.YtmcnpenihoaajaaGreatLClb
import Derived.Test.YtmcnpenihoaajaaGreatLCla
import Derived.Test.YtmcnpenihoaajaaGreatLHea
import Derived.Test.YtmcnpenihoaajaaGreatLDia
import Derived.Test.YtmcnpenihoaajaaGreatLWoa
import Derived.Maps.RangeWalk
import Derived.Maps.OwnSet
import Derived.Deep.MidRow
import Derived.Deep.RegionLaw
import Derived.Test.YtmcnpenihoaajaaGreatLTxa
set_option linter.unusedVariables false
set_option linter.unusedSimpArgs false
namespace Go.Proofs.YtmcnpenihoaajaaGreat
open Go.RowKit
set_option maxRecDepth 100000
def kv (x : KB) : Value := .slice x.a x.m x.c
def dats (l : List KB) : List Nat := l.filterMap fun x => (kv x).ownBlock
theorem dats_app (a b : List KB) : dats (a ++ b) = dats a ++ dats b := List.filterMap_append ..
theorem dats_cons (x : KB) (r : List KB) : dats (x :: r) = dats [x] ++ dats r := dats_app [x] r
theorem dats_none {x : KB} (h : x.a = none) : dats [x] = [] := by simp [dats, kv, h, Value.ownBlock]
theorem dats_same {x y : KB} (h : x.a = y.a) : dats [x] = dats [y] := by
  unfold dats kv
  simp only [List.filterMap_cons, List.filterMap_nil]
  rw [h]
  cases y.a <;> rfl
theorem dats_mem {l : List KB} {g : Nat} : g ∈ dats l ↔ ∃ x ∈ l, (kv x).ownBlock = some g := by unfold dats; rw [List.mem_filterMap]
def growF (F : Nat → Prop) (w w' : World) : Nat → Prop := fun g => F g ∨ (w.heap.size ≤ g ∧ g < w'.heap.size)
def KB.bare (x : KB) : Prop := x.a = none ∧ x.m = 0 ∧ x.c = 0 ∧ x.d = []
def nmGet : List (ByteArray × Nat) → ByteArray → Option Nat
  | [], _ => none
  | p :: r, s => if p.1 = s then some p.2 else nmGet r s
structure SaysN (D : DataW Unit) (ns : List (ByteArray × Nat)) : Prop where
  size : Maps.size D = ns.length
  has : ∀ s : ByteArray, Maps.has D (.string s.data.toList) = (nmGet ns s).isSome
  at_ : ∀ s : ByteArray, D.atKey (.string s.data.toList) (.lit (.int .u64 0)) = .lit (.int .u64 ((nmGet ns s).getD 0 : Nat))
def MapN (w : World) (M : Nat) (ns : List (ByteArray × Nat)) : Prop := ∃ D : DataW Unit, w.ownsMap Tryz.prog 9 (plainElem Tryz.prog 22) M ns.length D ∧ SaysN D ns
structure Md (w : World) (F : Nat → Prop) (P all : Nat) (l : List KB) (ns : List (ByteArray × Nat)) (lv : Nat → Bool) : Prop where
  ex : ∃ g cap f M, StB w P g cap l.length all f (.map (some M)) lv ∧ klist f l.length = l ∧ P ≠ g ∧ F g ∧ F M ∧ MapN w M ns
  own : ∀ x ∈ l, OwnW w 0 (kv x) x.d
  nod : (dats l).Nodup
  dF : ∀ g ∈ dats l, F g
  free : ∀ x ∈ l, x.b.u = false → x.bare
  pF : F P
  lt : ∀ g, F g → g < w.heap.size
def MdR (w w' : World) (F : Nat → Prop) (P all : Nat) (l : List KB) (ns : List (ByteArray × Nat)) (lv : Nat → Bool) : Prop := Md w' (growF F w w') P all l ns lv ∧ Turned F w w'
section
variable {w w' w1 w2 : World} {F F' : Nat → Prop} {P g cap n all i M : Nat} {f f' : Nat → KB} {mv : Value} {lv : Nat → Bool} {ns : List (ByteArray × Nat)} {l l' A C : List KB} {x : KB}
theorem MapN.kept {row : Option Nat} (h : MapN w M ns) (hg : w.grownBy w' row) (hr : some M ≠ row) : MapN w' M ns := by
  obtain ⟨D, h1, h2⟩ := h
  exact ⟨D, h1.kept hg hr, h2⟩
theorem MapN.later (h : MapN w M ns) (hg : w.grownBy w' none) : MapN w' M ns := h.kept hg (by simp)
theorem MapN.turned {p : Nat → Prop} (h : MapN w M ns) (ht : Turned p w w') (hM : ¬ p M) : MapN w' M ns := by
  obtain ⟨D, h1, h2⟩ := h
  exact ⟨D, map_turned h1 ht hM, h2⟩
theorem MapN.blk (h : MapN w M ns) : ∃ es clock, w.heap[M]? = some (.map es clock) := by
  obtain ⟨D, ⟨es, clock, h1, _⟩, _⟩ := h
  exact ⟨es, clock, h1⟩
theorem MapN.ne (h : MapN w M ns) {b : Nat} {c : Array Value} {t : TypeId} {fr : Nat × Nat} (hb : w.heap[b]? = some (.cells c t fr)) : M ≠ b := by
  obtain ⟨es, clock, h1⟩ := h.blk
  intro e
  subst e
  rw [h1] at hb
  cases hb
theorem Md.mono (h : Md w F P all l ns lv) (hF : ∀ g, F g → F' g) (hlt : ∀ g, F' g → g < w.heap.size) : Md w F' P all l ns lv := by
  obtain ⟨g, cap, f, M, h1, h2, h3, h4, h5, h6⟩ := h.ex
  exact ⟨⟨g, cap, f, M, h1, h2, h3, hF g h4, hF M h5, h6⟩, h.own, h.nod, fun g hg => hF g (h.dF g hg), h.free, hF P h.pF, hlt⟩
theorem Md.later (h : Md w F P all l ns lv) (hg : w.grownBy w' none) : Md w' F P all l ns lv := by
  obtain ⟨g, cap, f, M, h1, h2, h3, h4, h5, h6⟩ := h.ex
  exact ⟨⟨g, cap, f, M, h1.later hg, h2, h3, h4, h5, h6.later hg⟩, fun x hx => (h.own x hx).later hg, h.nod, h.dF, h.free, h.pF, fun g hF => Nat.lt_of_lt_of_le (h.lt g hF) hg.size⟩
theorem growF_lt (hlt : ∀ g, F g → g < w.heap.size) (hs : w.heap.size ≤ w'.heap.size) : ∀ g, growF F w w' g → g < w'.heap.size := fun g hg => by
  rcases hg with h | h
  · exact Nat.lt_of_lt_of_le (hlt g h) hs
  · exact h.2
theorem MdR.trans (h1 : MdR w w1 F P all l ns lv) (h2 : MdR w1 w2 (growF F w w1) P all l' ns lv) (hlt : ∀ g, F g → g < w.heap.size) : MdR w w2 F P all l' ns lv := by
  have hs1 := h1.2.size
  have hs2 := h2.2.size
  refine ⟨h2.1.mono (fun g hg => ?_) (growF_lt hlt (Nat.le_trans hs1 hs2)), turned_trans h1.2 h2.2 (fun i hi => ?_)⟩
  · rcases hg with (h | h) | h
    · exact .inl h
    · exact .inr ⟨h.1, by omega⟩
    · exact .inr ⟨by omega, h.2⟩
  · rcases hi with h | h
    · exact .inl h
    · exact .inr h.1
theorem MdR.refl (h : Md w F P all l ns lv) : MdR w w F P all l ns lv :=
  ⟨h.mono (fun g hg => .inl hg) (growF_lt h.lt (Nat.le_refl _)), ⟨rfl, rfl, rfl, Nat.le_refl _, fun _ _ _ => rfl⟩⟩
theorem MdR.later (h : MdR w w1 F P all l ns lv) (hg : w1.grownBy w2 none) : MdR w w2 F P all l ns lv := by
  have hs := hg.size
  refine ⟨(h.1.later hg).mono (fun g hg => ?_) (fun g hg2 => ?_), turned_trans h.2 (turned_of hg (p := fun _ => False) (fun k e => by cases e)) (fun i hi => hi.elim)⟩
  · rcases hg with h | h
    · exact .inl h
    · exact .inr ⟨h.1, by omega⟩
  · rcases hg2 with h3 | h3
    · exact Nat.lt_of_lt_of_le (h.1.lt g (.inl h3)) hs
    · exact h3.2
theorem MdR.first (hg : w.grownBy w1 none) (h : MdR w1 w2 F P all l ns lv) (hlt : ∀ g, F g → g < w.heap.size) : MdR w w2 F P all l ns lv := by
  have hs := hg.size
  refine ⟨h.1.mono (fun g hg => ?_) (growF_lt hlt (Nat.le_trans hs h.2.size)), turned_trans (turned_of hg (p := F) (fun k e => by cases e)) h.2 (fun i hi => .inl hi)⟩
  rcases hg with h | h
  · exact .inl h
  · exact .inr ⟨by omega, h.2⟩
theorem ownW_turned {p : Nat → Prop} {v : Value} {d : List Nat} (h : OwnW w 0 v d) (ht : Turned p w w') (hne : ∀ g, v.ownBlock = some g → ¬ p g) : OwnW w' 0 v d := by
  refine ⟨h.1, ?_⟩
  rcases h.2 with hn | ⟨g, cap, cur, rfl, hb, hgg, rest⟩
  · exact .inl hn
  · exact .inr ⟨g, cap, cur, rfl, hb, turned_heap ht hgg (hne g rfl), rest⟩
theorem ownW_cells {v : Value} {d : List Nat} (h : OwnW w 0 v d) (hg : v.ownBlock = some g) : ∃ cur, w.heap[g]? = some (.cells cur 22 (0, 0)) := by
  rcases h.2 with ⟨rfl, _⟩ | ⟨g', cap, cur, rfl, _, hgg, _⟩
  · cases hg
  · injection hg with hg
    subst hg
    exact ⟨cur, hgg⟩
theorem ownW_form (h : OwnW w 0 (kv x) x.d) : WordsAt w x.a x.d ∧ x.d.length = x.m := by
  obtain ⟨a, c, e⟩ := h.slice
  unfold kv at e
  injection e with e1 e2 e3
  refine ⟨?_, e2.symm⟩
  obtain ⟨a', c', e', h'⟩ := OwnW.lie h
  unfold kv at e'
  injection e' with f1 f2 f3
  rw [f1]; exact h'
theorem Md.row_ne (h : Md w F P all l ns lv) (hst : StB w P g cap n all f mv lv) (hx : x ∈ l) : ∀ k, (kv x).ownBlock = some k → ¬ (k = P ∨ k = g) := fun k hk => by
  obtain ⟨cur, hc⟩ := ownW_cells (h.own x hx) hk
  obtain ⟨cur2, hc2, _⟩ := hst.row.blk
  rintro (e | e)
  · exact ne_typeK hc hst.box (by decide) e
  · exact ne_typeK hc hc2 (by decide) e
theorem Md.turn (h : Md w F P all l ns lv) (hst : StB w P g cap n all f (.map (some M)) lv) (hFg : F g) (hFM : F M) (hmp : MapN w M ns) {g' cap' : Nat} (hst' : StB w' P g' cap' l'.length all f' (.map (some M)) lv) (hk : klist f' l'.length = l')
    (ht : Turned (fun i => i = P ∨ i = g) w w') (hPg : P ≠ g) (hloc : g' = g ∨ w.heap.size ≤ g') (hn : (dats l').Nodup) (hsub : ∀ q ∈ dats l', q ∈ dats l) (ho : ∀ y ∈ l', y.bare ∨ ∃ z ∈ l, kv y = kv z ∧ y.d = z.d) (hfr : ∀ y ∈ l', y.b.u = false → y.bare) : MdR w w' F P all l' ns lv := by
  have hMT : ¬ (M = P ∨ M = g) := by
    obtain ⟨cur2, hc2, _⟩ := hst.row.blk
    rintro (e | e)
    · exact hmp.ne hst.box e
    · exact hmp.ne hc2 e
  refine ⟨⟨⟨g', cap', f', M, hst', hk, ?_, ?_, .inl hFM, hmp.turned ht hMT⟩, fun y hy => ?_, hn, fun q hq => .inl (h.dF q (hsub q hq)), hfr, .inl h.pF, growF_lt h.lt ht.size⟩, turned_mono ht (fun i _ hi => by rcases hi with rfl | rfl; exact h.pF; exact hFg)⟩
  · intro e
    rcases hloc with h1 | h1
    · exact hPg (e.trans h1)
    · have := h.lt P h.pF
      omega
  · rcases hloc with h1 | h1
    · rw [h1]; exact .inl hFg
    · exact .inr ⟨h1, hst'.row.lt⟩
  · rcases ho y hy with hb | ⟨z, hz, e1, e2⟩
    · obtain ⟨b1, b2, b3, b4⟩ := hb
      unfold kv
      rw [b1, b2, b3, b4]
      exact World.ownsRow_nil _ _ _ _
    · rw [e1, e2]
      exact ownW_turned (h.own z hz) ht (h.row_ne hst hz)
structure Lay (E : Nat) (l : List KB) : Prop where
  ch : ChainB E 3776 (l.map KB.b)
  top : E ≤ 4800
theorem Lay.few {E : Nat} (h : Lay E l) : l.length ≤ 64 := by
  have h1 := h.ch.le
  have h2 := h.top
  rw [List.length_map] at h1
  omega
theorem Lay.mem {E : Nat} (h : Lay E l) (hx : x ∈ l) : x.b.off % 16 = 0 ∧ 3776 ≤ x.b.off ∧ x.b.off + x.b.s ≤ E ∧ 0 < x.b.s ∧ x.b.s % 16 = 0 := h.ch.mem (by decide) _ (List.mem_map_of_mem hx)
theorem klist_mem {j : Nat} (hk : klist f n = l) (hj : j < n) : f j ∈ l := by
  rw [← hk]
  exact List.mem_map_of_mem (List.mem_range.2 hj)
theorem dats_drop {A C : List KB} {x y : KB} (hy : y.bare) (h : (dats (A ++ x :: C)).Nodup) : (dats (A ++ y :: C)).Nodup ∧ ∀ q ∈ dats (A ++ y :: C), q ∈ dats (A ++ x :: C) := by
  have e1 : dats (A ++ y :: C) = dats A ++ dats C := by rw [dats_app, dats_cons y C, dats_none hy.1, List.nil_append]
  have e2 : dats (A ++ x :: C) = dats A ++ (dats [x] ++ dats C) := by rw [dats_app, dats_cons x C]
  have hs : (dats A ++ dats C).Sublist (dats A ++ (dats [x] ++ dats C)) := List.Sublist.append (List.Sublist.refl _) (List.sublist_append_right _ _)
  exact ⟨by rw [e1]; rw [e2] at h; exact h.sublist hs, fun q hq => by rw [e1] at hq; rw [e2]; exact hs.subset hq⟩
theorem dats_keep {A C : List KB} {x y : KB} (hy : y.a = x.a) : dats (A ++ y :: C) = dats (A ++ x :: C) := by
  rw [dats_app, dats_app, dats_cons y C, dats_cons x C, dats_same hy]
theorem kbFree_bare (o s : Nat) : (kbFree o s).bare := ⟨rfl, rfl, rfl, rfl⟩
theorem Md.put (h : Md w F P all (A ++ x :: C) ns lv) (hst : StB w P g cap n all f (.map (some M)) lv) (hn : (A ++ x :: C).length = n) (hk : klist f n = A ++ x :: C) (hPg : P ≠ g) (hFg : F g) (hFM : F M) (hmp : MapN w M ns) {y : KB} (hi : A.length = i)
    (hr : RowF w' g cap n (updK f i y)) (hg : w.grownBy w' (some g)) (hy : y.bare ∨ (kv y = kv x ∧ y.d = x.d ∧ (y.b.u = false → x.b.u = false))) : MdR w w' F P all (A ++ y :: C) ns lv := by
  have hst' := hst.turn hr hg hPg
  obtain ⟨_, _, hk'⟩ := klist_put hk hi y
  have hl : (A ++ y :: C).length = n := by rw [← hn]; simp
  have hd : (dats (A ++ y :: C)).Nodup ∧ ∀ q ∈ dats (A ++ y :: C), q ∈ dats (A ++ x :: C) := by
    rcases hy with h1 | ⟨h1, _⟩
    · exact dats_drop h1 h.nod
    · have : dats (A ++ y :: C) = dats (A ++ x :: C) := dats_keep (by unfold kv at h1; injection h1)
      rw [this]; exact ⟨h.nod, fun q hq => hq⟩
  rw [← hl] at hst' hk'
  refine h.turn hst hFg hFM hmp hst' hk' (turned_of hg (fun k e => .inr (by injection e with e; exact e.symm))) hPg (.inl rfl) hd.1 hd.2 (fun z hz => ?_) (fun z hz hu => ?_)
  · rcases List.mem_append.1 hz with h1 | h1
    · exact .inr ⟨z, by simp [h1], rfl, rfl⟩
    · rcases List.mem_cons.1 h1 with rfl | h2
      · rcases hy with h3 | ⟨h3, h4, _⟩
        · exact .inl h3
        · exact .inr ⟨x, by simp, h3, h4⟩
      · exact .inr ⟨z, by simp [h2], rfl, rfl⟩
  · rcases List.mem_append.1 hz with h1 | h1
    · exact h.free z (by simp [h1]) hu
    · rcases List.mem_cons.1 h1 with rfl | h2
      · rcases hy with h3 | ⟨h3, h4, h5⟩
        · exact h3
        · have := h.free x (by simp) (h5 hu)
          obtain ⟨b1, b2, b3, b4⟩ := this
          unfold kv at h3
          injection h3 with c1 c2 c3
          exact ⟨by rw [c1, b1], by rw [c2, b2], by rw [c3, b3], by rw [h4, b4]⟩
      · exact h.free z (by simp [h2]) hu
end
end Go.Proofs.YtmcnpenihoaajaaGreat
namespace Go.Proofs.YtmcnpenihoaajaaGreat
open Go.RowKit
set_option maxRecDepth 100000
section
variable {E o p i n m a : Nat} {bs cs A C U : List Blk} {b b' : Blk} {L : Nat → List Nat}
def cutSX (b : Blk) (pad need : Nat) : Nat := if b.s - pad - need < 48 then b.s - pad else need
theorem mg_free (h : Mg (A ++ b :: C)) (hu : b.u = false) : Mg A ∧ Mg C ∧ (∀ x, A.getLast? = some x → x.u = true) ∧ ∀ x, C.head? = some x → x.u = true := by
  obtain ⟨h1, h2, h3⟩ := mg_append.1 h
  refine ⟨h1, h2.tail, fun x hx => ?_, fun x hx => ?_⟩
  · rcases h3 x b hx rfl with q | q
    · exact q
    · rw [hu] at q; cases q
  · cases C with
    | nil => cases hx
    | cons c r =>
      rw [List.head?_cons] at hx
      rw [← Option.some.inj hx]
      rcases h2.1 with q | q
      · rw [hu] at q; cases q
      · exact q
theorem HS.taken (h : HS E (A ++ b :: C) L) (hu : b.u = false) {pad need owner : Nat} (h1 : pad % 16 = 0) (h2 : pad = 0 ∨ 48 ≤ pad) (h3 : pad + need ≤ b.s) (h4 : need % 16 = 0) (h5 : 48 ≤ need) (h6 : n + 40 ≤ need) (ho : owner ≤ 8) :
    HS E (A ++ cutB b pad need owner n ++ C) (takeL L owner (b.off + pad)) ∧ usL (A ++ cutB b pad need owner n ++ C) = usL A ++ ⟨b.off + pad, cutSX b pad need, true, owner, n⟩ :: usL C ∧ ∀ x ∈ usL A ++ usL C, x.off ≠ b.off + pad := by
  have hs : need ≤ cutSX b pad need := by unfold cutSX; split <;> omega
  have hX : ∀ x ∈ (if pad = 0 then [] else [freeB b.off pad]), BkOk x := fun x hx => by
    by_cases hp : pad = 0
    · rw [if_pos hp] at hx; cases hx
    · rw [if_neg hp] at hx; rw [List.mem_singleton.1 hx]; exact freeB_ok (by omega)
  have hY : ∀ x ∈ (if b.s - pad - need < 48 then [] else [freeB (b.off + pad + need) (b.s - pad - need)]), BkOk x := fun x hx => by
    by_cases hp : b.s - pad - need < 48
    · rw [if_pos hp] at hx; cases hx
    · rw [if_neg hp] at hx; rw [List.mem_singleton.1 hx]; exact freeB_ok (by omega)
  have uX : usL (if pad = 0 then [] else [freeB b.off pad]) = [] := by by_cases hp : pad = 0 <;> simp [hp, usL, freeB]
  have uY : usL (if b.s - pad - need < 48 then [] else [freeB (b.off + pad + need) (b.s - pad - need)]) = [] := by by_cases hp : b.s - pad - need < 48 <;> simp [hp, usL, freeB]
  obtain ⟨a1, a2, a3, a4, a5, a6, a7, a8, a9⟩ := chain_amid h.q.ch
  have hap : ∀ x ∈ usL A ++ usL C, x.off ≠ b.off + pad := fun x hx => by
    rcases List.mem_append.1 hx with q | q
    · have k1 := a1 x (mem_us.1 q).1
      have k2 := (h.q.is x (by simp [(mem_us.1 q).1])).sz
      omega
    · have k1 := a2 x (mem_us.1 q).1; omega
  have hus : usL (A ++ cutB b pad need owner n ++ C) = usL A ++ ⟨b.off + pad, cutSX b pad need, true, owner, n⟩ :: usL C := by
    unfold cutB
    rw [usL_app, usL_app, usL_app, uX, usL_yes _ rfl, uY]
    simp [cutSX]
  refine ⟨⟨⟨?_, h.q.top, fun x hx => ?_, ?_⟩, ?_⟩, hus, hap⟩
  · rw [List.append_assoc]
    refine ChainB.app.2 ⟨b.off, a3, ?_⟩
    unfold cutB
    rw [List.append_assoc]
    have hmid : ChainB E (b.off + pad) ((⟨b.off + pad, cutSX b pad need, true, owner, n⟩ :: if b.s - pad - need < 48 then [] else [freeB (b.off + pad + need) (b.s - pad - need)]) ++ C) := by
      unfold cutSX
      by_cases hr : b.s - pad - need < 48
      · rw [if_pos hr, if_pos hr]
        refine ⟨rfl, by show 0 < b.s - pad; omega, by show (b.s - pad) % 16 = 0; omega, ?_⟩
        show ChainB E (b.off + pad + (b.s - pad)) ([] ++ C)
        rw [show b.off + pad + (b.s - pad) = b.off + b.s by omega]; exact a4
      · rw [if_neg hr, if_neg hr]
        refine ⟨rfl, by show 0 < need; omega, h4, rfl, by show 0 < b.s - pad - need; omega, by show (b.s - pad - need) % 16 = 0; omega, ?_⟩
        show ChainB E (b.off + pad + need + (b.s - pad - need)) ([] ++ C)
        rw [show b.off + pad + need + (b.s - pad - need) = b.off + b.s by omega]; exact a4
    by_cases hp : pad = 0
    · rw [if_pos hp]
      rw [show b.off = b.off + pad by omega]
      rw [← show b.off = b.off + pad by omega]
      have : ∀ x, x = b.off → ChainB E x ((⟨b.off + pad, cutSX b pad need, true, owner, n⟩ :: if b.s - pad - need < 48 then [] else [freeB (b.off + pad + need) (b.s - pad - need)]) ++ C) := fun x hx => by rw [hx, show b.off = b.off + pad by omega]; rw [← show b.off = b.off + pad by omega]; simpa [hp] using hmid
      exact this _ rfl
    · rw [if_neg hp]
      exact ⟨rfl, by show 0 < pad; omega, h1, hmid⟩
  · rcases List.mem_append.1 hx with q | q
    · rcases List.mem_append.1 q with q | q
      · exact h.q.is x (by simp [q])
      · unfold cutB at q
        rcases List.mem_append.1 q with q | q
        · exact hX x q
        · rcases List.mem_cons.1 q with q | q
          · rw [q]; exact ⟨Nat.le_trans h5 hs, fun _ => ⟨Nat.le_trans h6 hs, by show (0 : Int) ≤ (owner : Int); omega, by show (owner : Int) ≤ 8; omega⟩, fun k => (by cases k)⟩
          · exact hY x q
    · exact h.q.is x (by simp [q])
  · rw [hus]
    have h2 := h.q.ls
    rw [usL_out hu] at h2
    exact h2.add (b := ⟨b.off + pad, cutSX b pad need, true, owner, n⟩) hap rfl
  · obtain ⟨m1, m2, m3, m4⟩ := mg_free h.mg hu
    rw [List.append_assoc]
    have hC : ∀ f : Blk, Mg (f :: C) := fun f => by
      cases C with
      | nil => trivial
      | cons c r => exact ⟨.inr (m4 c rfl), m2⟩
    have hmid : Mg ((⟨b.off + pad, cutSX b pad need, true, owner, n⟩ :: if b.s - pad - need < 48 then [] else [freeB (b.off + pad + need) (b.s - pad - need)]) ++ C) := by
      by_cases hr : b.s - pad - need < 48
      · rw [if_pos hr]
        cases C with
        | nil => trivial
        | cons c r => exact ⟨.inl rfl, m2⟩
      · rw [if_neg hr]
        exact ⟨.inl rfl, hC _⟩
    refine mg_append.2 ⟨m1, ?_, fun x c hx hc => .inl (m3 x hx)⟩
    unfold cutB
    rw [List.append_assoc]
    by_cases hp : pad = 0
    · rw [if_pos hp]; exact hmid
    · rw [if_neg hp]; exact ⟨.inr rfl, hmid⟩
theorem take_at (h : HS E bs L) (hf : fitErr bs m a = 0) : ∃ A b C, bs = A ++ b :: C ∧ fitM bs m a = some A.length ∧ b.u = false ∧ bs.getD A.length default = b ∧ padN b.off a % 16 = 0 ∧ (padN b.off a = 0 ∨ 48 ≤ padN b.off a) ∧ padN b.off a + needOf m ≤ b.s ∧ m ≤ 4800 ∧
    (∀ ow, tkB bs ow m a = A ++ cutB b (padN b.off a) (needOf m) ow m ++ C) ∧ (∀ ow, tkL bs L ow m a = takeL L ow (b.off + padN b.off a)) ∧ tkP bs m a = b.off + padN b.off a + 32 ∧ mtP bs m a = b.off + padN b.off a + 32 := by
  obtain ⟨h1, h2, i, h3⟩ := fit_zero hf
  obtain ⟨k1, k2, k3, k4⟩ := fitM_is h3
  have hb := bs_amid k1
  have hlen : (bs.take i).length = i := by simp; omega
  have hm : bs.getD i default ∈ bs := by
    rw [List.getD_eq_getElem?_getD, List.getElem?_eq_getElem k1]; exact List.getElem_mem k1
  have h4 := h.q.mem hm
  have h5 := h.q.top
  obtain ⟨p1, p2⟩ := padN_is h1 h4.1
  have p3 := padN_al h1 h4.1
  have p4 := need_48 m
  refine ⟨bs.take i, bs.getD i default, bs.drop (i + 1), hb, by rw [hlen]; exact h3, k2, by rw [hlen], p3.1, p2, k4, by omega, fun ow => ?_, fun ow => ?_, ?_, ?_⟩
  · unfold tkB gO; rw [h3]; rfl
  · unfold tkL gO; rw [h3]
  · unfold tkP gO; rw [h3]
  · unfold mtP tkP gO; rw [if_pos hf, h3]
theorem HS.take (h : HS E bs L) (hf : fitErr bs m a = 0) {ow : Nat} (ho : ow ≤ 8) : HS E (tkB bs ow m a) (tkL bs L ow m a) ∧ ∃ s, mtP bs m a = tkP bs m a ∧ 3808 ≤ tkP bs m a ∧ tkP bs m a < 4800 ∧ ∃ U V, usL bs = U ++ V ∧ usL (tkB bs ow m a) = U ++ ⟨tkP bs m a - 32, s, true, ow, m⟩ :: V ∧ ∀ x ∈ U ++ V, x.off ≠ tkP bs m a - 32 := by
  obtain ⟨A, b, C, e, hfi, hu, hb, p1, p2, p3, hm, e1, e2, e3, e4⟩ := take_at h hf
  have p4 := need_48 m
  have h5 := h.q.top
  rw [e] at h
  have h4 := h.q.mem (b := b) (by simp)
  obtain ⟨k1, k2, k3⟩ := h.taken (n := m) (owner := ow) hu p1 p2 p3 p4.1 p4.2.1 p4.2.2 ho
  rw [e1, e2, e3, e4]
  refine ⟨k1, cutSX b (padN b.off a) (needOf m), rfl, by omega, by omega, usL A, usL C, ?_, ?_, ?_⟩
  · rw [e]; exact usL_out hu
  · rw [k2, Nat.add_sub_cancel]
  · rw [Nat.add_sub_cancel]; exact k3
theorem HS.few (h : HS E bs L) : bs.length ≤ 64 := by
  have h1 := h.q.ch.le
  have h2 := h.q.top
  omega
end
end Go.Proofs.YtmcnpenihoaajaaGreat
namespace Go.Proofs.YtmcnpenihoaajaaGreat
open Go.RowKit
set_option maxRecDepth 100000
structure OpM where
  kind : Int
  n : Nat
  a : Nat
  off : Nat
  i : Nat
  v : Nat
  to : Int
  name : ByteArray
section
variable {w w' W : World} {F : Nat → Prop} {base all K : Nat} {v : Value} {S : MS}
end
end Go.Proofs.YtmcnpenihoaajaaGreat
namespace Go.Proofs.YtmcnpenihoaajaaGreat
open Go.RowKit
set_option maxRecDepth 100000
section
variable {w w' w0 w1 w2 : World} {F : Nat → Prop} {P all E : Nat} {ns : List (ByteArray × Nat)} {lv : Nat → Bool} {l A C : List KB} {x : KB}
theorem Md.other {b : Nat} {c : Array Value} {t : TypeId} {fr : Nat × Nat} (h : Md w F P all l ns lv) (hb : w.heap[b]? = some (.cells c t fr)) (h1 : t ≠ 90) (h2 : t ≠ 22) (h3 : t ≠ 94) (hg : w.grownBy w' (some b)) : Md w' F P all l ns lv := by
  obtain ⟨g, cap, f, M, hst, hk, hPg, hFg, hFM, hmp⟩ := h.ex
  refine ⟨⟨g, cap, f, M, ⟨(hg.block _ (lt_of_block hst.box) (fun e => by injection e with e; exact ne_typeK hst.box hb (Ne.symm h3) e)).trans hst.box, hst.row.other hb h1 hg⟩, hk, hPg, hFg, hFM, hmp.kept hg (fun e => by injection e with e; exact hmp.ne hb e)⟩, fun x hx => ?_, h.nod, h.dF, h.free, h.pF, fun q hq => Nat.lt_of_lt_of_le (h.lt q hq) hg.size⟩
  have ho := h.own x hx
  refine World.ownsRow.kept ho hg ?_
  by_cases e1 : (kv x).ownBlock = none
  · exact .inl e1
  · refine .inr fun e2 => ?_
    obtain ⟨cur, hc⟩ := ownW_cells ho e2
    exact ne_typeK hc hb (Ne.symm h2) rfl
end
end Go.Proofs.YtmcnpenihoaajaaGreat
namespace Go.Proofs.YtmcnpenihoaajaaGreat
open Go.RowKit
set_option maxRecDepth 100000
def newM (size : Nat) : MS := ⟨size, [freeB 3776 (size - 3776)], fun _ => [], [], [], fun _ => false⟩
def liveL (lv : Nat → Bool) : List Nat := (List.range 8).filter fun k => lv k
section
variable {w w' W : World} {F : Nat → Prop} {base all K : Nat} {v : Value} {S : MS}
end
end Go.Proofs.YtmcnpenihoaajaaGreat
namespace Go.Proofs.YtmcnpenihoaajaaGreat
open Go.RowKit
set_option maxRecDepth 100000
def KB.own (x : KB) (o : Int) : KB := ⟨⟨x.b.off, x.b.s, x.b.u, o, x.b.n⟩, x.a, x.m, x.c, x.d⟩
section
variable {w w' w1 : World} {F : Nat → Prop} {P all E b : Nat} {ns : List (ByteArray × Nat)} {lv : Nat → Bool} {l A C : List KB} {x : OpM} {bs : List Blk} {p : Nat} {ow : List Int}
end
end Go.Proofs.YtmcnpenihoaajaaGreat
namespace Go.Proofs.YtmcnpenihoaajaaGreat
open Go.RowKit
set_option maxRecDepth 100000
def KB.worded (y : KB) (i v : Nat) : KB := ⟨y.b, y.a, y.m, y.c, y.d.set i v⟩
section
variable {w w' w1 : World} {F : Nat → Prop} {P g cap n all E b k c i N : Nat} {f : Nat → KB} {mv bv : Value} {ns : List (ByteArray × Nat)} {lv : Nat → Bool} {l A C : List KB} {y : KB} {x : OpM}
theorem dats_apart (h : (dats (A ++ y :: C)).Nodup) (hN : (kv y).ownBlock = some N) : ∀ z, z ∈ A ∨ z ∈ C → (kv z).ownBlock ≠ some N := by
  have e : dats (A ++ y :: C) = dats A ++ (N :: dats C) := by
    rw [dats_app, dats_cons y C]
    have : dats [y] = [N] := by unfold dats; simp [hN]
    rw [this]; rfl
  rw [e, List.nodup_append] at h
  obtain ⟨h1, h2, h3⟩ := h
  rintro z (hz | hz) hk
  · exact h3 N (dats_mem.2 ⟨z, hz, hk⟩) N (by simp) rfl
  · exact (List.nodup_cons.1 h2).1 (dats_mem.2 ⟨z, hz, hk⟩)
theorem own_set1 {v : Value} {d : List Nat} (h : OwnW w 0 v d) (hN : v.ownBlock = some N) (hi : i < d.length) (u : Nat) : OwnW (w.setCell ⟨N, i, none⟩ (.int .u64 (u : Nat))) 0 v (d.set i u) ∧ w.cell? ⟨N, i, none⟩ = some (.int .u64 (d.getD i 0 : Nat)) ∧ w.frozen? ⟨N, i, none⟩ = false := by
  rcases h.2 with ⟨rfl, _⟩ | ⟨g, cap, cur, rfl, _, hgg, h3, h4, h5, h6⟩
  · cases hN
  · injection hN with hN
    subst hN
    have hat : cur[i]? = some (.int .u64 (d.getD i 0 : Nat)) := by
      have : (cellsU d)[i]? = some (.int .u64 (d.getD i 0 : Nat)) := by
        rw [cellsU_at, List.getElem?_eq_getElem hi, List.getD_eq_getElem?_getD, List.getElem?_eq_getElem hi]; rfl
      rw [← this, ← h6, List.getElem?_take_of_lt (by omega)]
      simp
    refine ⟨⟨by simp [cellsU], .inr ⟨g, cap, cur.setIfInBounds i (.int .u64 (u : Nat)), by rw [List.length_set], Nat.zero_le _, heap_setCell_same hgg _, by rw [List.length_set]; exact h3, h4, by simp [h5], ?_⟩⟩, by simp [World.cell?, hgg, hat], by simp [World.frozen?, hgg]⟩
    rw [List.length_set]
    unfold cellsU at h6 ⊢
    rw [List.map_set, ← h6]
    simp [List.take_set]
theorem Md.word (h : Md w F P all (A ++ y :: C) ns lv) (hN : (kv y).ownBlock = some N) (hi : i < y.d.length) (u : Nat) : MdR w (w.setCell ⟨N, i, none⟩ (.int .u64 (u : Nat))) F P all (A ++ y.worded i u :: C) ns lv ∧ w.cell? ⟨N, i, none⟩ = some (.int .u64 (y.d.getD i 0 : Nat)) ∧ w.frozen? ⟨N, i, none⟩ = false := by
  obtain ⟨g, cap, f, M, hst, hk2, hPg, hFg, hFM, hmp⟩ := h.ex
  have hy := h.own y (by simp)
  obtain ⟨hs1, hs2, hs3⟩ := own_set1 hy hN hi u
  obtain ⟨cur, hc⟩ := ownW_cells hy hN
  have hg := grown_set w N i (.int .u64 (u : Nat))
  have hMN : some M ≠ some N := fun e => by injection e with e; exact hmp.ne hc e
  have hPN : P ≠ N := fun e => ne_typeK hst.box hc (by decide) e
  have hFN : F N := h.dF N (dats_mem.2 ⟨y, by simp, hN⟩)
  obtain ⟨m, hm⟩ : ∃ m, (A ++ y :: C).length = m := ⟨_, rfl⟩
  have hl : (A ++ y.worded i u :: C).length = m := by rw [← hm]; simp
  rw [hm] at hst hk2
  have hk3 : klist (updK f A.length (y.worded i u)) m = A ++ y.worded i u :: C := (klist_put hk2 rfl (y.worded i u)).2.2
  have hfA := (klist_put hk2 rfl (y.worded i u)).1
  have hdd : dats (A ++ y.worded i u :: C) = dats (A ++ y :: C) := dats_keep rfl
  have hst2 : StB (w.setCell ⟨N, i, none⟩ (.int .u64 (u : Nat))) P g cap m all (updK f A.length (y.worded i u)) (.map (some M)) lv := by
    refine ⟨(hg.block _ (lt_of_block hst.box) (fun e => hPN (by injection e))).trans hst.box, ?_⟩
    have hr := hst.row.other hc (by decide) hg
    obtain ⟨cur2, q1, q2, q3⟩ := hr.ex
    refine ⟨⟨cur2, q1, q2, fun j hj i' hi' => ?_⟩, hr.le, hr.cap⟩
    by_cases e : j = A.length
    · subst e; rw [updK_same, q3 _ hj _ hi', hfA]; rfl
    · rw [updK_ne e]; exact q3 j hj i' hi'
  rw [← hl] at hst2 hk3
  refine ⟨⟨⟨⟨g, cap, _, M, hst2, hk3, hPg, .inl hFg, .inl hFM, hmp.kept hg hMN⟩, fun z hz => ?_, by rw [hdd]; exact h.nod, fun q hq => by rw [hdd] at hq; exact .inl (h.dF q hq), fun z hz hzu => ?_, .inl h.pF, growF_lt h.lt hg.size⟩, turned_of hg (fun q e => by injection e with e; rw [← e]; exact hFN)⟩, hs2, hs3⟩
  · have hap := dats_apart h.nod hN
    rcases List.mem_append.1 hz with h1 | h1
    · refine World.ownsRow.kept (h.own z (by simp [h1])) hg ?_
      by_cases e1 : (kv z).ownBlock = none
      · exact .inl e1
      · exact .inr (hap z (.inl h1))
    · rcases List.mem_cons.1 h1 with rfl | h2
      · exact hs1
      · refine World.ownsRow.kept (h.own z (by simp [h2])) hg ?_
        by_cases e1 : (kv z).ownBlock = none
        · exact .inl e1
        · exact .inr (hap z (.inr h2))
  · rcases List.mem_append.1 hz with h1 | h1
    · exact h.free z (by simp [h1]) hzu
    · rcases List.mem_cons.1 h1 with rfl | h2
      · have := h.free y (by simp) hzu
        obtain ⟨b1, _, _, _⟩ := this
        unfold kv at hN
        rw [b1] at hN
        cases hN
      · exact h.free z (by simp [h2]) hzu
end
end Go.Proofs.YtmcnpenihoaajaaGreat
namespace Go.Proofs.YtmcnpenihoaajaaGreat
open Go.RowKit
set_option maxRecDepth 100000
section
variable {w w' w1 : World} {F : Nat → Prop} {P g cap n all E b k : Nat} {f : Nat → KB} {mv : Value} {ns : List (ByteArray × Nat)} {lv : Nat → Bool} {l A C : List KB} {x : OpM} {bs : List Blk} {p : Nat} {ow : List Int}
theorem StB.live (h : StB w P g cap n all f mv lv) (hk : k < 8) : w.cell? ⟨P, 3 + k, none⟩ = some (.bool (lv k)) := by
  have hb := h.box
  refine cell21 hb ?_
  rcases (show k = 0 ∨ k = 1 ∨ k = 2 ∨ k = 3 ∨ k = 4 ∨ k = 5 ∨ k = 6 ∨ k = 7 by omega) with rfl | rfl | rfl | rfl | rfl | rfl | rfl | rfl <;> rfl
theorem Md.live (h : Md w F P all l ns lv) (hk : k < 8) : w.cell? ⟨P, 3 + k, none⟩ = some (.bool (lv k)) := by
  obtain ⟨g, cap, f, M, hst, _⟩ := h.ex
  exact hst.live hk
end
end Go.Proofs.YtmcnpenihoaajaaGreat
namespace Go.Proofs.YtmcnpenihoaajaaGreat
open Go.RowKit
open Go.Maps (Keyed)
set_option maxRecDepth 100000
theorem undS : Tryz.prog.underlying 9 = some .string := by kernel_rfl
theorem undU : Tryz.prog.underlying 22 = some (.int .u64) := by kernel_rfl
theorem undM : Tryz.prog.underlying 91 = some (.map 9 22) := by kernel_rfl
theorem lawS : Keyed Tryz.prog 9 := Maps.string_keyed undS
theorem zeroU (w : World) : (zeroValue 22).run Tryz.prog w = .ok (.int .u64 0) w := by kernel_rfl
theorem keyS {s : ByteArray} (hs : s.size ≤ maxLen) : keyOf Tryz.prog 9 (.string s) = some (.string s.data.toList) := WideMaps.keyOf_string_mk undS hs
theorem below_grown14 {a b : World} (h : Below a.heap.size a b) : a.grownBy b none := ⟨h.os, h.tape, h.output, h.size, fun i hi _ => h.block i hi⟩
section
variable {w w' w1 : World} {F : Nat → Prop} {P all E c i : Nat} {ns : List (ByteArray × Nat)} {lv : Nat → Bool} {l A C : List KB} {y : KB} {x : OpM}
end
end Go.Proofs.YtmcnpenihoaajaaGreat
namespace Go.Proofs.YtmcnpenihoaajaaGreat
open Go.RowKit
open Go.Maps (Keyed)
set_option maxRecDepth 100000
def nmDel (ns : List (ByteArray × Nat)) (s : ByteArray) : List (ByteArray × Nat) := ns.filter fun q => !decide (q.1 = s)
theorem nmGet_del (s t : ByteArray) : ∀ ns, nmGet (nmDel ns s) t = if t = s then none else nmGet ns t
  | [] => by unfold nmDel; simp [nmGet]
  | q :: r => by
    have ih := nmGet_del s t r
    unfold nmDel at ih ⊢
    rw [List.filter_cons]
    by_cases h : q.1 = s
    · rw [if_neg (by simp [h]), ih]
      by_cases h2 : t = s
      · rw [if_pos h2, if_pos h2]
      · rw [if_neg h2, if_neg h2]
        show _ = if q.1 = t then _ else _
        rw [if_neg (fun e => h2 (e.symm.trans h))]
    · rw [if_pos (by simp [h])]
      show (if q.1 = t then _ else _) = if t = s then _ else if q.1 = t then _ else _
      by_cases h3 : q.1 = t
      · rw [if_pos h3, if_pos h3, if_neg (fun e => h (h3.trans e))]
      · rw [if_neg h3, if_neg h3, ih]
theorem nmGet_app (s t : ByteArray) (p : Nat) : ∀ ns, nmGet (ns ++ [(s, p)]) t = match nmGet ns t with | some q => some q | none => if s = t then some p else none
  | [] => rfl
  | q :: r => by
    show (if q.1 = t then some q.2 else nmGet (r ++ [(s, p)]) t) = match (if q.1 = t then some q.2 else nmGet r t) with | some q => some q | none => if s = t then some p else none
    by_cases h : q.1 = t
    · rw [if_pos h, if_pos h]
    · rw [if_neg h, if_neg h, nmGet_app s t p r]
theorem nmDel_len {s : ByteArray} : ∀ {ns : List (ByteArray × Nat)}, (ns.map Prod.fst).Nodup → (nmGet ns s).isSome → (nmDel ns s).length + 1 = ns.length
  | [], _, h => by cases h
  | q :: r, hn, h => by
    rw [List.map_cons, List.nodup_cons] at hn
    unfold nmDel
    rw [List.filter_cons]
    by_cases hq : q.1 = s
    · rw [if_neg (by simp [hq])]
      have : r.filter (fun q => !decide (q.1 = s)) = r := List.filter_eq_self.2 fun z hz => by
        have : z.1 ≠ s := fun e => hn.1 (List.mem_map.2 ⟨z, hz, e.trans hq.symm⟩)
        simp [this]
      rw [this, List.length_cons]
    · rw [if_pos (by simp [hq]), List.length_cons, List.length_cons]
      have h' : (nmGet r s).isSome := by rw [show nmGet (q :: r) s = nmGet r s from if_neg hq] at h; exact h
      have := nmDel_len hn.2 h'
      unfold nmDel at this
      omega
theorem lit_ne {s t : ByteArray} (h : t ≠ s) : (Lit.string t.data.toList) ≠ Lit.string s.data.toList := fun e => by
  injection e with e
  apply h
  cases s; cases t
  congr 1
  exact Array.toList_inj.1 e
theorem SaysN.del {D : DataW Unit} {ns : List (ByteArray × Nat)} {s : ByteArray} (h : SaysN D ns) (hT : Maps.Tidy D) (hn : (ns.map Prod.fst).Nodup) (hs : (nmGet ns s).isSome) : SaysN (D.del (.string s.data.toList)) (nmDel ns s) := by
  refine ⟨?_, fun t => ?_, fun t => ?_⟩
  · have h1 := Maps.size_del (k := Lit.string s.data.toList) hT
    rw [h.has s, hs, if_pos rfl, h.size] at h1
    have h2 := nmDel_len hn hs
    omega
  · rw [nmGet_del]
    by_cases e : t = s
    · subst e; rw [if_pos rfl]; exact Maps.has_del_same
    · rw [if_neg e, Maps.has_del_other (lit_ne e)]; exact h.has t
  · rw [nmGet_del]
    by_cases e : t = s
    · subst e; rw [if_pos rfl]; exact Maps.atKey_del_same _
    · rw [if_neg e, Maps.atKey_del_other (lit_ne e)]; exact h.at_ t
theorem SaysN.put {D : DataW Unit} {ns : List (ByteArray × Nat)} {s : ByteArray} {p : Nat} (h : SaysN D ns) (hT : Maps.Tidy D) (hs : nmGet ns s = none) : SaysN (D.put (.string s.data.toList) (.lit (.int .u64 (p : Nat)))) (ns ++ [(s, p)]) := by
  have hK : WideAt.IsKeyLit (Lit.string s.data.toList) := by first | trivial | exact .string _ | simp [WideAt.IsKeyLit]
  refine ⟨?_, fun t => ?_, fun t => ?_⟩
  · rw [Maps.size_put hT, h.has s, hs, if_neg (by decide), h.size]; simp
  · rw [nmGet_app]
    by_cases e : t = s
    · subst e; rw [hs, Maps.has_put_same hT.isMap hK]; simp
    · rw [Maps.has_put_other (lit_ne e), h.has t, if_neg (fun k => e k.symm)]
      cases nmGet ns t <;> rfl
  · rw [nmGet_app]
    by_cases e : t = s
    · subst e; rw [hs, Maps.atKey_put_same hT.isMap hK]; simp
    · rw [Maps.atKey_put_other (lit_ne e), h.at_ t, if_neg (fun k => e k.symm)]
      cases nmGet ns t <;> rfl
section
variable {w w' w1 w2 : World} {F : Nat → Prop} {P all E c i M p : Nat} {ns ns1 ns2 : List (ByteArray × Nat)} {lv lv1 : Nat → Bool} {l l1 l2 A C : List KB} {y : KB} {x : OpM}
end
end Go.Proofs.YtmcnpenihoaajaaGreat
namespace Go.Proofs.YtmcnpenihoaajaaGreat
open Go.RowKit
set_option maxRecDepth 100000
structure EntsAt (w : World) (la : Option Addr) (l : List (ByteArray × Nat)) : Prop where
  cells : 0 < l.length → ∃ b off, la = some ⟨b, off, none⟩ ∧ b < w.heap.size ∧ ∀ k, k < l.length → w.cell? ⟨b, off + k * 2, none⟩ = some (.string (entS l k)) ∧ w.cell? ⟨b, off + k * 2 + 1, none⟩ = some (.int .u64 (entO l k : Nat))
theorem cellsNm_appE (a b : List (ByteArray × Nat)) : cellsNm (a ++ b) = cellsNm a ++ cellsNm b := by simp [cellsNm, List.flatMap_append]
theorem cellsNm_one (l : List (ByteArray × Nat)) : ∀ v ∈ cellsNm l, v.oneCell' = true := by
  intro v hv
  unfold cellsNm at hv
  obtain ⟨p, _, hp⟩ := List.mem_flatMap.1 hv
  rcases List.mem_cons.1 hp with rfl | hp
  · rfl
  · rw [List.mem_singleton.1 hp]; rfl
theorem EntsAt.later {w w' : World} {la : Option Addr} {l : List (ByteArray × Nat)} (h : EntsAt w la l) (hg : w.grownBy w' none) : EntsAt w' la l where
  cells := fun hn => by
    obtain ⟨b, off, h1, h2, h3⟩ := h.cells hn
    exact ⟨b, off, h1, Nat.lt_of_lt_of_le h2 hg.size, fun k hk => ⟨(World.cell?_of_block (w := w) (a := ⟨b, off + k * 2, none⟩) (hg.block b h2 (by simp))).trans (h3 k hk).1, (World.cell?_of_block (w := w) (a := ⟨b, off + k * 2 + 1, none⟩) (hg.block b h2 (by simp))).trans (h3 k hk).2⟩⟩
end Go.Proofs.YtmcnpenihoaajaaGreat
namespace Go.Proofs.YtmcnpenihoaajaaGreat
open Go.RowKit
set_option maxRecDepth 100000
section
variable {w w' w1 w2 : World} {F : Nat → Prop} {P g cap n all E c i M p : Nat} {f : Nat → KB} {mv : Value} {ns : List (ByteArray × Nat)} {lv : Nat → Bool} {l A C : List KB} {y : KB} {x : OpM}
theorem ChainB.ends {E : Nat} : ∀ {o : Nat} {bs : List Blk}, ChainB E o bs → ∃ S : Nat → Nat, S 0 = o ∧ (∀ k, k < bs.length → S (k + 1) = S k + (bs.getD k default).s) ∧ S bs.length = E ∧ ∀ k, k ≤ bs.length → S k ≤ E
  | o, [], h => ⟨fun _ => o, rfl, fun k hk => absurd hk (Nat.not_lt_zero _), h, fun k hk => Nat.le_of_eq h⟩
  | o, b :: r, h => by
    have hle := ChainB.le h
    obtain ⟨h1, h2, h3, h4⟩ := h
    obtain ⟨S, e1, e2, e3, e4⟩ := h4.ends
    refine ⟨fun k => match k with | 0 => o | k + 1 => S k, rfl, fun k hk => ?_, e3, fun k hk => ?_⟩
    · cases k with
      | zero => exact e1
      | succ k => exact e2 k (by simp at hk; omega)
    · cases k with
      | zero => show o ≤ E; omega
      | succ k => exact e4 k (by simp at hk; omega)
set_option maxHeartbeats 2000000 in
theorem size_anyX (h : StB w P g cap n all f mv lv) (hn : n ≤ 1000) {S : Nat → Nat} (h0 : S 0 = 3776) (hS : ∀ k, k < n → S (k + 1) = S k + (f k).b.s) (hb : ∀ k, k ≤ n → S k < 1000000) :
    Calls Tryz.prog 37 #[.pointer (some ⟨P, 0, none⟩)] w fun e w' => e = .returned (.int .u64 (S n : Nat)) ∧ w.grownBy w' none := by
  obtain ⟨e0, e1, e2⟩ := h.cells
  have HH := Lib.hid h
  have HS := Lib.hid hS
  have HB := Lib.hid hb
  have H0 : Hid ((3776 : Nat) = S 0) := Lib.hid h0.symm
  clear h hS hb h0
  go_enter Tryz.func37, Tryz.ntmps37
  go_wp2
  go_loopw [3, 13] (fun ve vk wr => ∃ k : Nat, k ≤ n ∧ vk = .int .i64 k ∧ (∃ v : Nat, ve = .int .u64 v ∧ v = S k) ∧ w.grownBy wr none) (fun _ vk _ => n - (intOf vk).toNat)
  case atStart => exact ⟨0, Nat.zero_le _, rfl, ⟨3776, rfl, H0.out⟩, grown_refl _ _⟩
  case round =>
    obtain ⟨k, hk, rfl, ⟨v, rfl, HV⟩, hg⟩ := hrel
    by_cases h1 : k < n
    · have h1' : (k : Int) < (n : Int) := by omega
      obtain ⟨c0, c1, c2, c3, c4, c5⟩ := (HH.out.later hg).row.cells h1
      have hsk := HS.out k h1
      have hbk := HB.out (k + 1) h1
      obtain ⟨x, hx⟩ : ∃ x, f k = x := ⟨_, rfl⟩
      rw [hx] at c0 c1 c2 c3 c4 c5 hsk
      obtain ⟨⟨x0, x1, x2, x3, x4⟩, xa, xm, xc, xd⟩ := x
      simp only at c0 c1 c2 c3 c4 c5 hsk
      have hb := heap_alloc_new' wr (.cells #[.int .u64 (x0 : Nat), .int .u64 (x1 : Nat), .bool x2, .int .i64 x3, .int .u64 (x4 : Nat), .slice xa xm xc] 90)
      have ga := World.grownBy_alloc wr (.cells #[.int .u64 (x0 : Nat), .int .u64 (x1 : Nat), .bool x2, .int .i64 x3, .int .u64 (x4 : Nat), .slice xa xm xc] 90) none
      obtain ⟨W1, hW1⟩ : ∃ W1, wr.alloc (.cells #[.int .u64 (x0 : Nat), .int .u64 (x1 : Nat), .bool x2, .int .i64 x3, .int .u64 (x4 : Nat), .slice xa xm xc] 90) = W1 := ⟨_, rfl⟩
      rw [hW1] at hb ga
      have HG1 := Lib.hid (grown_trans hg ga)
      obtain ⟨y0, y1, y2, y3, y4, y5⟩ := six_cells hb
      have e1 : IntKind.u64.wrap ((v : Int) + (x1 : Int)) = ((v + x1 : Nat) : Int) := by rw [IntKind.wrap_u64]; omega
      have HVV : Hid (v + x1 = S (k + 1)) := Lib.hid (by omega)
      clear hb ga hsk hbk HV hx
      go_wp2
      go_roundw
      case rel => exact ⟨k + 1, by omega, by go_num, ⟨v + x1, by first | rfl | rw [e1] | go_num, HVV.out⟩, HG1.out⟩
      case measure => simp [intOf]; omega
    · obtain rfl : k = n := by omega
      go_wp2
      go_ret
      subst HV
      exact ⟨rfl, hg⟩
theorem size_md (h : Md w F P all l ns lv) (hL : Lay E l) :
    Calls Tryz.prog 37 #[.pointer (some ⟨P, 0, none⟩)] w fun e w' => e = .returned (.int .u64 (E : Nat)) ∧ w.grownBy w' none := by
  obtain ⟨g, cap, f, M, hst, hk, hPg, hFg, hFM, hmp⟩ := h.ex
  obtain ⟨S, s1, s2, s3, s4⟩ := hL.ch.ends
  rw [List.length_map] at s2 s3 s4
  have ht := hL.top
  rw [← s3]
  refine size_anyX hst (by have := hL.few; omega) s1 (fun k hk2 => ?_) (fun k hk2 => by have := s4 k hk2; omega)
  rw [s2 k hk2]
  congr 1
  have : (l.map KB.b).getD k default = (f k).b := by
    rw [← hk, ← show bsF f l.length = (klist f l.length).map KB.b from (klist_b ..).symm]
    exact bsF_at hk2
  rw [this]
end
end Go.Proofs.YtmcnpenihoaajaaGreat
