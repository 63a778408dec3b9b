/-
  Texts of one layer, one behind the other: memory, contracts of the functions, and what follows of them.
  Conditions: as each theorem says.
-/
import Derived.Test.YtcbdbflgfhbikaaGreatLCab
import Derived.Test.YtcbdbflgfhbikaaGreatLCla
import Derived.Test.YtcbdbflgfhbikaaGreatCarG
set_option linter.unusedVariables false
set_option linter.unusedSimpArgs false
namespace Go.Proofs.YtcbdbflgfhbikaaGreat
open Go.RowKit
structure AtB (f : Nat → Nat) (E : Nat) (bs A C : List Blk) (b : Blk) : Prop where
  eq : bs = A ++ ([b] ++ C)
  ahead : Told f E 3776 A b.off
  is : BkIs f E b
  behind : Told f E (b.off + b.s) C E
section
variable {f f0 f1 f2 f3 f4 f5 g : Nat → Nat} {E : Nat} {bs A C : List Blk} {b : Blk} {L : Nat → List Nat}
theorem atB_of (h : Told f E 3776 bs E) {i : Nat} (hi : i < bs.length) : AtB f E bs (bs.take i) (bs.drop (i + 1)) (bs.getD i default) := by
  have e : bs = bs.take i ++ ([bs.getD i default] ++ bs.drop (i + 1)) := by
    have h1 : bs.getD i default = bs[i] := by rw [List.getD_eq_getElem?_getD, List.getElem?_eq_getElem hi]; rfl
    rw [h1, List.singleton_append, ← List.drop_eq_getElem_cons hi, List.take_append_drop]
  have h2 := h
  rw [e] at h2
  obtain ⟨m, h3, h4⟩ := told_append.1 h2
  obtain ⟨h5, h6, h7⟩ := h4
  subst h5
  exact ⟨e, h3, h6, h7⟩
theorem AtB.out (h : AtB f E bs A C b) : (∀ x ∈ A, x.off + x.s ≤ b.off) ∧ ∀ x ∈ C, b.off + b.s ≤ x.off := ⟨fun x hx => (h.ahead.within x hx).2, fun x hx => (h.behind.within x hx).1⟩
theorem AtB.frees (h : AtB f E bs A C b) (hu : b.u = false) (hT : Told f E 3776 bs E) : ((freesB bs).filter fun a => decide (a ≠ b.off)) = freesB A ++ freesB C := by
  obtain ⟨o1, o2⟩ := h.out
  have hs := h.is.size
  have hz := h.ahead.is
  have ef : freesB [b] = [b.off] := by simp [freesB, hu]
  rw [h.eq, freesB_append, freesB_append, ef, List.filter_append, List.filter_append, List.filter_cons, if_neg (by simp), List.filter_nil, List.nil_append, List.filter_eq_self.2, List.filter_eq_self.2]
  · intro y hy
    obtain ⟨c, hc, _, rfl⟩ := freesB_mem.1 hy
    have := o2 c hc
    exact decide_eq_true (by omega)
  · intro y hy
    obtain ⟨c, hc, _, rfl⟩ := freesB_mem.1 hy
    have := o1 c hc
    have := (h.ahead.is c hc).size
    exact decide_eq_true (by omega)
theorem AtB.free_out (h : AtB f E bs A C b) : ∀ y ∈ freesB A ++ freesB C, 3776 ≤ y ∧ (y + 48 ≤ b.off ∨ b.off + b.s ≤ y) := fun y hy => by
  obtain ⟨o1, o2⟩ := h.out
  rcases List.mem_append.1 hy with hy | hy
  · obtain ⟨c, hc, _, rfl⟩ := freesB_mem.1 hy
    have := o1 c hc
    have := (h.ahead.is c hc).size
    have := (h.ahead.is c hc).lo
    omega
  · obtain ⟨c, hc, _, rfl⟩ := freesB_mem.1 hy
    have := o2 c hc
    have := (h.behind.is c hc).lo
    omega
theorem AtB.used_out (h : AtB f E bs A C b) (hu : b.u = false) : usedB bs = usedB A ++ usedB C ∧ ∀ y ∈ usedB bs, 3776 ≤ y ∧ (y + 48 ≤ b.off ∨ b.off + b.s ≤ y) := by
  obtain ⟨o1, o2⟩ := h.out
  have e : usedB bs = usedB A ++ usedB C := by
    have ef : usedB [b] = [] := by simp [usedB, hu]
    rw [h.eq, usedB_append, usedB_append, ef, List.nil_append]
  refine ⟨e, fun y hy => ?_⟩
  rw [e] at hy
  rcases List.mem_append.1 hy with hy | hy
  · obtain ⟨c, hc, _, rfl⟩ := usedB_mem.1 hy
    have := o1 c hc
    have := (h.ahead.is c hc).size
    have := (h.ahead.is c hc).lo
    omega
  · obtain ⟨c, hc, _, rfl⟩ := usedB_mem.1 hy
    have := o2 c hc
    have := (h.behind.is c hc).lo
    omega
structure CutW (O S P N sz n : Nat) (owner : Nat) (f5 : Nat → Nat) : Prop where
  pad : P ≠ 0 → f5 O = packN P false 0 ∧ f5 (O + P - 8) = packN P false 0
  rest : ¬ S - P - N < 48 → f5 (O + P + N) = packN (S - P - N) false 0 ∧ f5 (O + S - 8) = packN (S - P - N) false 0
  used : f5 (O + P) = packN sz true owner ∧ f5 (O + P + sz - 8) = packN sz true owner
  len : f5 (O + P + 8) = n
theorem may_false {s : Nat} (h1 : s % 16 = 0) (h2 : 48 ≤ s) (h3 : s ≤ 1048576) : mayP s false 0 := ⟨h1, h2, h3, by decide, by decide, .inr rfl⟩
theorem may_true {s owner : Nat} (h1 : s % 16 = 0) (h2 : 48 ≤ s) (h3 : s ≤ 1048576) (h4 : owner ≤ 8) : mayP s true (owner : Int) := ⟨h1, h2, h3, by omega, by omega, .inl rfl⟩
theorem free_is {s off : Nat} (h1 : s % 16 = 0) (h2 : 48 ≤ s) (h3 : off % 16 = 0) (h4 : 3776 ≤ off) (h5 : off + s ≤ E) (hE : E ≤ 4800) (e1 : f off = packN s false 0) (e2 : f (off + s - 8) = packN s false 0) : BkIs f E (freeB off s) :=
  ⟨may_false h1 h2 (by show s ≤ 1048576; omega), h3, h4, h5, e1, e2, by unfold freeB; simp⟩
theorem used_is {s off n owner : Nat} (h1 : s % 16 = 0) (h2 : 48 ≤ s) (h3 : off % 16 = 0) (h4 : 3776 ≤ off) (h5 : off + s ≤ E) (hE : E ≤ 4800) (ho : owner ≤ 8) (e1 : f off = packN s true (owner : Int)) (e2 : f (off + s - 8) = packN s true (owner : Int)) (e3 : f (off + 8) = n) (h6 : n + 40 ≤ s) : BkIs f E ⟨off, s, true, owner, n⟩ :=
  ⟨may_true h1 h2 (by show s ≤ 1048576; omega) ho, h3, h4, h5, e1, e2, by simp only [if_true]; exact ⟨e3, h6⟩⟩
def cutS (S P N : Nat) : Nat := if S - P - N < 48 then S - P else N
theorem cut_told {P N n owner : Nat} (hb : b.off % 16 = 0 ∧ b.s % 16 = 0 ∧ 3776 ≤ b.off ∧ b.off + b.s ≤ E) (hE : E ≤ 4800) (hP : P % 16 = 0 ∧ (P = 0 ∨ 48 ≤ P)) (hN : N % 16 = 0 ∧ 48 ≤ N) (hn : n + 40 ≤ N) (hfit : P + N ≤ b.s) (ho : owner ≤ 8) (h : CutW b.off b.s P N (cutS b.s P N) n owner f5) :
    Told f5 E b.off (cutB b P N owner n) (b.off + b.s) := by
  obtain ⟨b1, b2, b3, b4⟩ := hb
  have hu := h.used
  unfold cutS at hu
  unfold cutB
  have tail : Told f5 E (b.off + P) (⟨b.off + P, if b.s - P - N < 48 then b.s - P else N, true, owner, n⟩ :: if b.s - P - N < 48 then [] else [freeB (b.off + P + N) (b.s - P - N)]) (b.off + b.s) := by
    by_cases hr : b.s - P - N < 48
    · rw [if_pos hr] at hu ⊢
      rw [if_pos hr]
      exact ⟨rfl, used_is (by omega) (by omega) (by omega) (by omega) (by omega) hE ho hu.1 hu.2 h.len (by omega), by show b.off + P + (b.s - P) = b.off + b.s; omega⟩
    · rw [if_neg hr] at hu ⊢
      rw [if_neg hr]
      obtain ⟨r1, r2⟩ := h.rest hr
      refine ⟨rfl, used_is hN.1 hN.2 (by omega) (by omega) (by omega) hE ho hu.1 hu.2 h.len hn, rfl, free_is (by omega) (by omega) (by omega) (by omega) (by omega) hE r1 ?_, by show b.off + P + N + (b.s - P - N) = b.off + b.s; omega⟩
      rw [show b.off + P + N + (b.s - P - N) - 8 = b.off + b.s - 8 by omega]
      exact r2
  by_cases hp : P = 0
  · subst hp
    rw [if_pos rfl, List.nil_append]
    exact tail
  · rw [if_neg hp]
    obtain ⟨p1, p2⟩ := h.pad hp
    exact ⟨rfl, free_is hP.1 (by omega) b1 b3 (by omega) hE p1 p2, tail⟩
theorem cut_frees {P N n owner : Nat} : freesB (cutB b P N owner n) = (if P = 0 then [] else [b.off]) ++ (if b.s - P - N < 48 then [] else [b.off + P + N]) := by
  unfold cutB freesB freeB
  by_cases h1 : P = 0 <;> by_cases h2 : b.s - P - N < 48
  · rw [if_pos h1, if_pos h1, if_pos h2, if_pos h2]; simp [h2]
  · rw [if_pos h1, if_pos h1, if_neg h2, if_neg h2]; simp [h2]
  · rw [if_neg h1, if_neg h1, if_pos h2, if_pos h2]; simp [h2]
  · rw [if_neg h1, if_neg h1, if_neg h2, if_neg h2]; simp [h2]
theorem cut_used {P N n owner : Nat} : usedB (cutB b P N owner n) = [b.off + P] := by
  unfold cutB usedB freeB
  by_cases h1 : P = 0 <;> by_cases h2 : b.s - P - N < 48
  · rw [if_pos h1, if_pos h2]; simp
  · rw [if_pos h1, if_neg h2]; simp
  · rw [if_neg h1, if_pos h2]; simp
  · rw [if_neg h1, if_neg h2]; simp
theorem cut_perm {P N n owner : Nat} : ((freesB A ++ freesB C) ++ (if P = 0 then [] else [b.off]) ++ (if b.s - P - N < 48 then [] else [b.off + P + N])).Perm (freesB (A ++ (cutB b P N owner n ++ C))) := by
  rw [freesB_append, freesB_append, cut_frees, List.append_assoc, List.append_assoc, List.append_assoc]
  refine List.Perm.append_left _ ?_
  rw [← List.append_assoc, ← List.append_assoc, List.append_assoc]
  exact List.perm_append_comm
theorem cut_heap {P N n owner : Nat} (hF : HeapF f0 E bs) (hat : AtB f0 E bs A C b) (hu : b.u = false) (hP : P % 16 = 0 ∧ (P = 0 ∨ 48 ≤ P)) (hN : N % 16 = 0 ∧ 48 ≤ N) (hn : n + 40 ≤ N) (hfit : P + N ≤ b.s) (ho : owner ≤ 8)
    (hS : Stay f0 f5 b.off (b.off + b.s) (freesB A ++ freesB C)) (hW : CutW b.off b.s P N (cutS b.s P N) n owner f5) (hH : Hung f5 ((freesB A ++ freesB C) ++ (if P = 0 then [] else [b.off]) ++ (if b.s - P - N < 48 then [] else [b.off + P + N]))) :
    HeapF f5 E (A ++ (cutB b P N owner n ++ C)) := by
  have hs := hat.is.size
  have hF' := hF
  rw [hat.eq] at hF'
  exact hF'.swap hat.ahead hat.behind hS (cut_told ⟨hat.is.al, hs.2, hat.is.lo, hat.is.hi⟩ hF.low hP hN hn hfit ho hW) (by omega) (hH.perm cut_perm)
theorem take_eq (bs : List Blk) (i P N owner n : Nat) : takeB bs i P N owner n = bs.take i ++ (cutB (bs.getD i default) P N owner n ++ bs.drop (i + 1)) := by unfold takeB; rw [List.append_assoc]
theorem cut_mg {P N n owner : Nat} (hm : Mg (A ++ ([b] ++ C))) (hu : b.u = false) : Mg (A ++ (cutB b P N owner n ++ C)) := by
  obtain ⟨m1, m2, m3⟩ := mg_append.1 hm
  have m4 : ∀ x, A.getLast? = some x → x.u = true := fun x hx => by
    rcases m3 x b hx rfl with h | h
    · exact h
    · rw [hu] at h; cases h
  have m5 : ∀ x, C.head? = some x → x.u = true := fun x hx => by
    obtain ⟨_, _, k⟩ := mg_append.1 m2
    rcases k b x rfl hx with h | h
    · rw [hu] at h; cases h
    · exact h
  have m6 : Mg C := (mg_append.1 m2).2.1
  have tail : ∀ (o s : Nat), Mg ((⟨o, s, true, owner, n⟩ :: if b.s - P - N < 48 then [] else [freeB (b.off + P + N) (b.s - P - N)]) ++ C) := fun o s => by
    by_cases hr : b.s - P - N < 48
    · rw [if_pos hr]
      exact mg_append.2 ⟨trivial, m6, fun x y hx hy => .inr (m5 y hy)⟩
    · rw [if_neg hr]
      exact mg_append.2 ⟨⟨.inl rfl, trivial⟩, m6, fun x y hx hy => .inr (m5 y hy)⟩
  unfold cutB
  by_cases hp : P = 0
  · rw [if_pos hp, List.nil_append]
    exact mg_append.2 ⟨m1, tail _ _, fun x y hx hy => .inl (m4 x hx)⟩
  · rw [if_neg hp, List.append_assoc]
    refine mg_append.2 ⟨m1, mg_append.2 ⟨trivial, tail _ _, fun x y hx hy => .inr ?_⟩, fun x y hx hy => .inl (m4 x hx)⟩
    have : y = _ := (Option.some.inj hy).symm
    rw [this]
theorem cut_ledg {P N n owner : Nat} (h : SoundF f0 E bs L) (hat : AtB f0 E bs A C b) (hu : b.u = false) (hlt : P < b.s) (hS : Stay f0 f5 b.off (b.off + b.s) (freesB A ++ freesB C)) :
    Ledg (usedB (A ++ (cutB b P N owner n ++ C))) f5 L ∧ ∀ c, c < 8 → b.off + P ∉ L c := by
  have hs := hat.is.size
  have hlo := hat.is.lo
  obtain ⟨e, hU⟩ := hat.used_out hu
  have hF := hat.free_out
  have h1 : Ledg (usedB bs) f5 L := h.ledg.stay hS hlo (fun y hy => (hF y hy).1) fun x hx => by
    refine ⟨(hU x hx).1, (hU x hx).2, fun y hy => ?_⟩
    have hyb : y ∈ freesB bs := by
      rw [hat.eq, freesB_append, freesB_append]
      simp only [List.mem_append] at hy ⊢
      rcases hy with hy | hy
      · exact .inl hy
      · exact .inr (.inr hy)
    obtain ⟨c, hc, hcu, rfl⟩ := usedB_mem.1 hx
    have hcs := (h.told.is c hc).size
    rcases h.told.free_far hc hyb with k | k
    · rw [hcu] at k; exact absurd k.2 (by decide)
    · omega
  refine ⟨h1.field fun c hc x hx => ?_, fun c hc hx => ?_⟩
  · have := h1.on c hc x hx
    rw [e] at this
    rw [usedB_append, usedB_append]
    simp only [List.mem_append] at this ⊢
    rcases this with k | k
    · exact .inl k
    · exact .inr (.inr k)
  · have := (hU _ (h.ledg.on c hc _ hx)).2
    omega
theorem cut_whose {P N n owner : Nat} (h : SoundF f0 E bs L) (hat : AtB f0 E bs A C b) (hlt : P < b.s) (ho : owner ≤ 8) (hno : ∀ c, c < 8 → b.off + P ∉ L c) :
    ∀ x ∈ A ++ (cutB b P N owner n ++ C), x.u = true → ∀ c, c < 8 → (x.off ∈ takeL L owner (b.off + P) c ↔ x.o = (c : Int) + 1) := by
  intro x hx hxu c hc
  obtain ⟨o1, o2⟩ := hat.out
  have hs := hat.is.size
  have old : x ∈ bs → x.off ≠ b.off + P → (x.off ∈ takeL L owner (b.off + P) c ↔ x.o = (c : Int) + 1) := fun hxb hne => by
    rw [← h.whose x hxb hxu c hc]
    unfold takeL
    by_cases h0 : owner = 0
    · rw [if_pos h0]
    · rw [if_neg h0]
      by_cases e : c = owner - 1
      · subst e
        rw [setL_same, List.mem_cons]
        exact ⟨fun k => k.elim (fun k => absurd k hne) id, .inr⟩
      · rw [setL_other _ e]
  rcases List.mem_append.1 hx with hx | hx
  · have := o1 x hx
    have := (hat.ahead.is x hx).size
    exact old (by rw [hat.eq]; simp [hx]) (by omega)
  rcases List.mem_append.1 hx with hx | hx
  · have hxo : x.off = b.off + P ∧ x.o = owner := by
      unfold cutB at hx
      simp only [List.mem_append, List.mem_cons] at hx
      rcases hx with hx | rfl | hx
      · by_cases hp : P = 0
        · rw [if_pos hp] at hx; cases hx
        · rw [if_neg hp] at hx
          rw [List.mem_singleton.1 hx] at hxu
          cases hxu
      · exact ⟨rfl, rfl⟩
      · by_cases hr : b.s - P - N < 48
        · rw [if_pos hr] at hx; cases hx
        · rw [if_neg hr] at hx
          rw [List.mem_singleton.1 hx] at hxu
          cases hxu
    rw [hxo.1, hxo.2]
    unfold takeL
    by_cases h0 : owner = 0
    · rw [if_pos h0]
      exact ⟨fun k => absurd k (hno c hc), fun k => by omega⟩
    · rw [if_neg h0]
      by_cases e : c = owner - 1
      · subst e
        rw [setL_same]
        exact ⟨fun _ => by omega, fun _ => by simp⟩
      · rw [setL_other _ e]
        exact ⟨fun k => absurd k (hno c hc), fun k => absurd (by omega) e⟩
  · have := o2 x hx
    exact old (by rw [hat.eq]; simp [hx]) (by omega)
end
end Go.Proofs.YtcbdbflgfhbikaaGreat
namespace Go.Proofs.YtcbdbflgfhbikaaGreat
open Go.RowKit Go.Shelf
set_option maxRecDepth 100000
attribute [local go_sem] Oper.semAt_some
theorem cfree_any (p : Option Addr) (n : Nat) (w : World) : Calls Tryz.prog 48 #[.pointer p, .int .u64 n] w fun e w' => e = .returned (.func (.func 86) #[] #[.pointer (some ⟨w.heap.size, 0, none⟩), .pointer (some ⟨w.heap.size + 1, 0, none⟩)]) ∧ (w.alloc (.cells #[.pointer p] 25)).alloc (.cells #[.int .u64 n] 23) = w' := by
  go_enter Tryz.func48, Tryz.ntmps48
  go_wp2
  go_ret
  exact ⟨by simp, rfl⟩
structure FreeT (w : World) (p : Value) (least : Nat) (xs : List Nat) (z : Nat → Nat) : Prop where
  first : ∀ V, w.grownBy V none → Calls Tryz.prog 87 #[p, .int .u64 least, .int .u64 0] V fun e V' => e = .returned (.tuple #[.int .u64 (xs.getD 0 0 : Nat), .bool (decide (0 < xs.length))]) ∧ V.grownBy V' none
  size : ∀ V k, w.grownBy V none → k < xs.length → Calls Tryz.prog 88 #[p, .int .u64 (xs.getD k 0 : Nat)] V fun e V' => e = .returned (.int .u64 (z (xs.getD k 0) : Nat)) ∧ V.grownBy V' none
  next : ∀ V k, w.grownBy V none → k < xs.length → Calls Tryz.prog 87 #[p, .int .u64 (z (xs.getD k 0) : Nat), .int .u64 (xs.getD k 0 : Nat)] V fun e V' => e = .returned (.tuple #[.int .u64 (xs.getD (k + 1) 0 : Nat), .bool (decide (k + 1 < xs.length))]) ∧ V.grownBy V' none
  few : xs.length ≤ 10000
  mu : ∃ mu : Nat → Nat, ∀ k, k ≤ xs.length → mu (xs.getD k 0) = xs.length - k
def szAt (z : Nat → Nat) (xs : List Nat) (k : Nat) : Nat := if k < xs.length then z (xs.getD k 0) else 0
set_option maxHeartbeats 4000000 in
theorem cfree_stops {w w0 : World} {tb : Nat} {p : Option Addr} {least : Nat} {xs : List Nat} {z : Nat → Nat} (ht : FreeT w (.pointer p) least xs z)
    (hw0 : Below w.heap.size w w0) (hbx : Boxed w0 tb 25 (.pointer p)) (hcx : Boxed w0 (tb + 1) 23 (.int .u64 least)) :
    SeqStopsK Fence.wide 5 Tryz.prog 86 #[.pointer (some ⟨tb, 0, none⟩), .pointer (some ⟨tb + 1, 0, none⟩)] (fun k : Nat => #[.int .u64 (xs.getD k 0 : Nat), .int .u64 (szAt z xs k : Nat)]) (StK w.heap.size tb (.pointer p)) (fun ys => ys = List.range xs.length) (fun ys => ∃ k, k < xs.length ∧ ys = List.range (k + 1)) xs.length w0 := by
  intro yl J Jx W hW hJ hJx hY h0
  show CallsIn Fence.wide 5 Tryz.prog 86 #[.func (.yield yl) #[] #[], .pointer (some ⟨tb, 0, none⟩), .pointer (some ⟨tb + 1, 0, none⟩)] W _
  have hbW : Boxed W tb 25 (.pointer p) := (hW.block tb hbx.lt).trans hbx
  have hcW : Boxed W (tb + 1) 23 (.int .u64 least) := (hW.block (tb + 1) hcx.lt).trans hcx
  have hBW : Below w.heap.size w W := hw0.grown (below_grown hW) hw0.size (fun k e => by cases e)
  obtain ⟨n, hn⟩ : ∃ n, xs.length = n := ⟨_, rfl⟩
  have hn10 : n ≤ 10000 := hn ▸ ht.few
  obtain ⟨mu, hmu⟩ := ht.mu
  have HMU := Lib.hid hmu
  have hFirst := (callsIn_wide (n := 4)).2 (ht.first W (below_grown hBW))
  have hNext := fun (V : World) (k : Nat) (hg : w.grownBy V none) (hk : k < n) => (callsIn_wide (n := 4)).2 (ht.next V k hg (by omega))
  have hSize := fun (V : World) (k : Nat) (hg : w.grownBy V none) (hk : k < n) => (callsIn_wide (n := 4)).2 (ht.size V k hg (by omega))
  have hsz' : ∀ k, k < n → szAt z xs k = z (xs.getD k 0) := fun k hk => if_pos (by omega)
  have HSZ := Lib.hid hsz'
  rw [hn] at hY hFirst ⊢
  simp only [hn] at hNext HMU
  obtain ⟨g, hgz⟩ : ∃ g : Nat → Nat, (fun k => szAt z xs k) = g := ⟨_, rfl⟩
  have hgk : ∀ k, szAt z xs k = g k := fun k => by rw [← hgz]
  simp only [hgk] at HSZ hY
  have hNext' : ∀ (V : World) (k : Nat), w.grownBy V none → k < n → CallsIn Fence.wide 4 Tryz.prog 87 #[.pointer p, .int .u64 (g k : Nat), .int .u64 (xs.getD k 0 : Nat)] V fun e V' => e = .returned (.tuple #[.int .u64 (xs.getD (k + 1) 0 : Nat), .bool (decide (k + 1 < n))]) ∧ V.grownBy V' none := fun V k hg hk => by
    have := hNext V k hg hk
    rw [← HSZ.out k hk] at this
    exact this
  have hSize' : ∀ (V : World) (k : Nat), w.grownBy V none → k < n → CallsIn Fence.wide 4 Tryz.prog 88 #[.pointer p, .int .u64 (xs.getD k 0 : Nat)] V fun e V' => e = .returned (.int .u64 (g k : Nat)) ∧ V.grownBy V' none := fun V k hg hk => by
    have := hSize V k hg hk
    rw [← HSZ.out k hk] at this
    exact this
  have HJ := Lib.hid hJ
  have HY := Lib.hid hY
  have HN := Lib.hid hNext'
  have HS := Lib.hid hSize'
  have hsz := hBW.size
  have cb0 := hbW.cell
  have cc0 := hcW.cell
  clear hY hJ hJx hNext hSize hNext' hSize' hsz' HSZ hgz hgk ht hn hmu
  obtain ⟨f, hf⟩ : ∃ f : Nat → Nat, (fun k => xs.getD k 0) = f := ⟨_, rfl⟩
  have hfk : ∀ k, xs.getD k 0 = f k := fun k => by rw [← hf]
  simp only [hfk] at HN HS HY HMU hFirst ⊢
  clear hfk hf
  obtain ⟨x0, hx0⟩ : ∃ x, f 0 = x := ⟨_, rfl⟩
  obtain ⟨d0, hd0⟩ : ∃ d, decide (0 < n) = d := ⟨_, rfl⟩
  rw [hx0, hd0] at hFirst
  refine callsIn_of_wp Tryz.func86 rfl trivial ?_ rfl
  simp only [Tryz.ntmps86, List.size_toArray, List.length_cons, List.length_nil, Nat.reduceAdd, Nat.reduceSub, Array.replicate_succ, Array.replicate_zero, List.push_toArray, List.append_toArray, List.nil_append, List.cons_append]
  gi_wp2_with (first | (refine ⟨trivial, ?_⟩; gi_at_call 87; (with_reducible refine hFirst.mono ?_); rintro e w1 ⟨rfl, hg1⟩; have hb1 := hbW.kept hg1 (by simp); have hB1 : Below w.heap.size w w1 := hBW.grown hg1 hBW.size (fun k e => by cases e)))
  have hJ1 := HJ.out _ _ _ none h0 hg1 (fun r e => by cases e)
  have hs1 := hg1.size
  clear hFirst cb0 cc0 hbW hcW hBW h0
  gi_loopw [4, 5] (fun v b wr => ∃ k : Nat, k ≤ n ∧ v = .int .u64 (f k : Nat) ∧ b = .bool (decide (k < n)) ∧ J (List.range k) wr ∧ Below w.heap.size w wr ∧ W.heap.size ≤ wr.heap.size ∧ Boxed wr tb 25 (.pointer p)) (fun v _ _ => mu (intOf v).toNat)
  case atStart => exact ⟨0, Nat.zero_le _, by rw [hx0], by rw [hd0], hJ1, hB1, hs1, hb1⟩
  case round =>
    obtain ⟨k, hk, rfl, rfl, hJk, hB, hsW, hb⟩ := hrel
    clear hJ1 hB1 hb1
    by_cases h1 : k < n
    · have hN1 := fun (V : World) (hg : w.grownBy V none) => HN.out V k hg h1
      have hS1 := HS.out wr k (below_grown hB) h1
      have hm1 := HMU.out k hk
      have hm2 := HMU.out (k + 1) (by omega)
      have hd : decide (k < n) = true := decide_eq_true h1
      obtain ⟨x, hx⟩ : ∃ x, f k = x := ⟨_, rfl⟩
      obtain ⟨y, hy⟩ : ∃ y, f (k + 1) = y := ⟨_, rfl⟩
      obtain ⟨s, hs⟩ : ∃ s, g k = s := ⟨_, rfl⟩
      obtain ⟨d1, hd1⟩ : ∃ d, decide (k + 1 < n) = d := ⟨_, rfl⟩
      rw [hx, hs] at hN1 hS1
      rw [hy, hd1] at hN1
      rw [hx] at hm1
      rw [hy] at hm2
      rw [hx, hd]
      have cb := hb.cell
      have HJk := Lib.hid hJk
      have hms : mu y < mu x := by omega
      clear hJk hm1 hm2
      gi_wp2_with (refine ⟨trivial, ?_⟩; gi_at_call 88; (with_reducible refine hS1.mono ?_); rintro e w2 ⟨rfl, hg2⟩; have hJ2 := HJ.out _ _ _ none HJk.out hg2 (fun r e => by cases e); obtain ⟨fn, tmps, assign, body, hyy, hR⟩ := HY.out (List.range k) k w2 hJ2 (by simpa using h1); rw [← List.range_succ] at hR; rw [hx, hs] at hyy)
      refine hR.mono ?_
      rintro e W3 (⟨rfl, hJ3, hk3⟩ | ⟨rfl, hJx3⟩)
      · have hb3 : Boxed W3 tb 25 (.pointer p) := hk3.2 (hb.kept hg2 (by simp))
        have hB3 : Below w.heap.size w W3 := (hB.grown hg2 hB.size (fun k e => by cases e)).trans hk3.1
        have hs3 := Nat.le_trans hsW (Nat.le_trans hg2.size hk3.1.size)
        have cb3 := hb3.cell
        have hN3 := hN1 W3 (below_grown hB3)
        gi_wp2_with (refine ⟨trivial, ?_⟩; gi_at_call 87; (with_reducible refine hN3.mono ?_); rintro e w4 ⟨rfl, hg4⟩)
        have hJ4 := HJ.out _ _ _ none hJ3 hg4 (fun r e => by cases e)
        refine ⟨⟨k + 1, by omega, by rw [hy], by rw [hd1], hJ4, hB3.grown hg4 hB3.size (fun k e => by cases e), Nat.le_trans hs3 hg4.size, hb3.kept hg4 (by simp)⟩, by simpa [intOf] using hms⟩
      · gi_wp2
        refine bodyPost_ret (results_none rfl _ _ _) rfl ?_
        exact ⟨⟨_, rfl⟩, .inr ⟨_, ⟨k, h1, rfl⟩, hJx3⟩⟩
    · obtain rfl : k = n := by omega
      have hd : decide (k < k) = false := decide_eq_false (by omega)
      rw [hd]
      gi_wp2
      go_end0
      exact ⟨⟨_, rfl⟩, .inl ⟨_, rfl, hJk⟩⟩
end Go.Proofs.YtcbdbflgfhbikaaGreat
namespace Go.Proofs.YtcbdbflgfhbikaaGreat
open Go.RowKit
set_option maxRecDepth 100000
theorem gets_take {l : List Blk} {n i : Nat} (h : i < n) : (l.take n).getD i default = l.getD i default := by
  rw [List.getD_eq_getElem?_getD, List.getElem?_take, if_pos h, ← List.getD_eq_getElem?_getD]
theorem gets_drop {l : List Blk} {n i : Nat} : (l.drop n).getD i default = l.getD (n + i) default := by
  rw [List.getD_eq_getElem?_getD, List.getElem?_drop, ← List.getD_eq_getElem?_getD]
theorem BlksAt.take {w : World} {la : Option Addr} {l : List Blk} (h : BlksAt w la l) (n : Nat) : BlksAt w la (l.take n) where
  cells := fun hn => by
    rw [List.length_take] at hn
    obtain ⟨b, off, h1, h2, h3⟩ := h.cells (by omega)
    refine ⟨b, off, h1, h2, fun i hi => ?_⟩
    rw [List.length_take] at hi
    have := h3 i (by omega)
    unfold gO gS gU gW gN at this ⊢
    rw [gets_take (by omega)]
    exact this
theorem BlksAt.drop {w : World} {b off : Nat} {l : List Blk} (h : BlksAt w (some ⟨b, off, none⟩) l) (n : Nat) : BlksAt w (some ⟨b, off + n * 5, none⟩) (l.drop n) where
  cells := fun hn => by
    rw [List.length_drop] at hn
    obtain ⟨b', off', h1, h2, h3⟩ := h.cells (by omega)
    injection h1 with h1
    injection h1 with e1 e2
    subst e1 e2
    refine ⟨b, off + n * 5, rfl, h2, fun i hi => ?_⟩
    rw [List.length_drop] at hi
    have := h3 (n + i) (by omega)
    unfold gO gS gU gW gN at this ⊢
    rw [gets_drop, show off + n * 5 + i * 5 = off + (n + i) * 5 by omega]
    exact this
theorem cellsB_app (a b : List Blk) : cellsB (a ++ b) = cellsB a ++ cellsB b := by simp [cellsB, List.flatMap_append]
theorem run_append_empty {P : Program} {w : World} (base : Nat) (t ty e : TypeId) (i : TypeInfo) (size c : Nat) (ht : P.underlying t = some (.slice e)) (hi : P.info? e = some i)
    (v : Value) (n : Nat) (xs : List Value) (hown : w.ownsRow base e size v n xs) :
    (Builtin.append_ #[t, t] ty #[v, .slice none 0 c]).run P w = .ok v w := by
  rcases hown.2 with ⟨rfl, rfl⟩ | ⟨g, cap, cur, rfl, _, _, hnc, _⟩
  · simp [Builtin.append_, run_underlying ht, sizeOf, typeInfo, hi, Builtin.lenOf, Builtin.firstCells]
  · simp [Builtin.append_, run_underlying ht, sizeOf, typeInfo, hi, Builtin.lenOf, Builtin.firstCells, hnc, storeCells]
theorem wpList_append_blks {w2 : World} {base n m c : Nat} {v : Value} {l k : List Blk} {la : Option Addr} (hown : OwnB w2 base 61 v l) (hp : BlksAt w2 la k) (hn : l.length = n) (hk : k.length = m) (hm : n + m ≤ 1000000) (hbase : base ≤ w2.heap.size)
    {ops : Array Oper} {rest : List Oper} {o : Oper} {a : Act} {Q : Exit → Act → World → Prop} (hgd : o.guard = none) (s x : Operand)
    (ho : o.op = .call { callee := .builtin .append, args := #[s, x], argTypes := #[26, 26] })
    (hs : a.eval s = v) (hx : a.eval x = .slice la m c)
    (h : ∀ v' w', OwnB w' base 61 v' (l ++ k) → w2.grownBy w' v.ownBlock → (v'.ownBlock = v.ownBlock ∨ v'.ownBlock = some w2.heap.size) → wpList Tryz.prog ops Q rest (a.put o.dst v') w') :
    wpList Tryz.prog ops Q (o :: rest) a w2 := by
  subst hn hk
  obtain ⟨i0, hi, hz0, hz1, hz2⟩ := info_parts info_rblk
  rcases la with _ | ad
  · have hm0 : k = [] := by
      cases k with
      | nil => rfl
      | cons b r =>
        obtain ⟨_, _, hb, _⟩ := hp.cells (by simp)
        cases hb
    subst hm0
    refine wpList_plain hgd fun K hK => ?_
    have hrun := run_append_empty (P := Tryz.prog) (w := w2) base 26 o.type 61 i0 5 c Tryz.underlying26 hi v l.length (cellsB l) hown
    unfold Oper.wp
    simp only [List.length_nil] at hx
    simp [execOp, ho, resolve, invoke, builtin, hs, hx, hrun, Result.andThen]
    exact hK _ _ (h v w2 (by simpa using hown) (grown_refl _ _) (.inl rfl))
  · refine wpList_append_own_at _ hgd s x 26 ho base 61 i0 (.agg #[.int .u64 0, .int .u64 0, .bool false, .int .i64 0, .int .u64 0]) 5 40 Tryz.underlying26 hi hz0 hz1 hz2 rfl (by decide) v l.length (cellsB l) hs hown ad k.length c (cellsB k) hx (cellsB_len k) ?_ (cellsB_one k) (by unfold maxLen; omega) (by omega) hbase fun v' w' h1 h2 _ h4 => h v' w' (by unfold OwnB; rw [cellsB_app, List.length_append]; exact h1) h2 h4
    intro j u hj
    have hjm : j < k.length * 5 := by
      rcases Nat.lt_or_ge j (k.length * 5) with h' | h'
      · exact h'
      · rw [List.getElem?_eq_none (by rw [cellsB_len]; exact h')] at hj; cases hj
    obtain ⟨b, off, hb, _, hcs⟩ := hp.cells (by omega)
    injection hb with hb
    subst hb
    have hadd : (⟨b, off, none⟩ : Addr).add j = ⟨b, off + j, none⟩ := by unfold Addr.add; split <;> simp_all
    rw [hadd]
    obtain ⟨c0, c1, c2, c3, c4⟩ := hcs (j / 5) (by omega)
    have hat := cellsB_at k (j / 5) (j % 5) (by omega) (Nat.mod_lt _ (by decide))
    rw [show j / 5 * 5 + j % 5 = j by omega] at hat
    rw [hat] at hj
    unfold gO at c0
    unfold gS at c1
    unfold gU at c2
    unfold gW at c3
    unfold gN at c4
    have h5 := Nat.mod_lt j (show 0 < 5 by decide)
    rcases (show j % 5 = 0 ∨ j % 5 = 1 ∨ j % 5 = 2 ∨ j % 5 = 3 ∨ j % 5 = 4 by omega) with e | e | e | e | e <;> rw [e] at hj <;> simp [Blk.row] at hj
    · rw [show off + j / 5 * 5 = off + j by omega] at c0; rw [c0, ← hj]; rfl
    · rw [show off + j / 5 * 5 + 1 = off + j by omega] at c1; rw [c1, ← hj]; rfl
    · rw [show off + j / 5 * 5 + 2 = off + j by omega] at c2; rw [c2, ← hj]; rfl
    · rw [show off + j / 5 * 5 + 3 = off + j by omega] at c3; rw [c3, ← hj]; rfl
    · rw [show off + j / 5 * 5 + 4 = off + j by omega] at c4; rw [c4, ← hj]; rfl
theorem blk_at {V V' : World} {b : Nat} (k : Blk) (hb : V.heap.size = b) (hg : (V.alloc (.cells k.row.toArray 61)).grownBy V' none) : BlksAt V' (some ⟨b, 0, none⟩) [k] := by
  subst hb
  have h : V'.heap[V.heap.size]? = some (.cells k.row.toArray 61 (0, 0)) := (hg.block _ (by simp) (by simp)).trans (heap_alloc_new' V _)
  refine ⟨fun _ => ⟨_, 0, rfl, lt_of_block h, fun i hi => ?_⟩⟩
  obtain rfl : i = 0 := by simpa using hi
  unfold World.cell?
  simp only [h]
  exact ⟨rfl, rfl, rfl, rfl, rfl⟩
theorem ownB_none {V : World} {base b : Nat} (hb : V.heap.size = b) (h : base ≤ b) : OwnB (V.alloc (.cells #[] 61)) base 61 (.slice (some ⟨b, 0, none⟩) 0 0) [] := by
  subst hb
  exact World.ownsRow_lit (base := base) (e := 61) (size := 5) V #[] 0 h (by decide) rfl
structure TkB (w0 : World) (base hb rb bb : Nat) (hcs rcs bcs : Array Value) (W : World) (v : Value) (l : List Blk) : Prop where
  own : OwnB W base 61 v l
  hbx : W.heap[hb]? = some (.cells hcs 30 (0, 0))
  rbx : W.heap[rb]? = some (.cells rcs 30 (0, 0))
  bbx : W.heap[bb]? = some (.cells bcs 61 (0, 0))
  since : w0.grownBy W none
  lo : hb < base ∧ rb < base ∧ bb < base ∧ w0.heap.size ≤ base ∧ base ≤ W.heap.size
structure TkU (w0 : World) (base hb rb bb ub : Nat) (hcs rcs bcs ucs : Array Value) (W : World) (v : Value) (l : List Blk) : Prop where
  tk : TkB w0 base hb rb bb hcs rcs bcs W v l
  ubx : W.heap[ub]? = some (.cells ucs 61 (0, 0))
  no : v.ownBlock ≠ some ub
section
variable {w0 W W' : World} {base hb rb bb ub : Nat} {hcs rcs bcs ucs : Array Value} {v v' : Value} {l k : List Blk}
theorem TkB.size (h : TkB w0 base hb rb bb hcs rcs bcs W v l) : base ≤ W.heap.size := h.lo.2.2.2.2
theorem TkB.later (h : TkB w0 base hb rb bb hcs rcs bcs W v l) (hg : W.grownBy W' none) : TkB w0 base hb rb bb hcs rcs bcs W' v l :=
  ⟨h.own.later hg, (hg.block _ (lt_of_block h.hbx) (by simp)).trans h.hbx, (hg.block _ (lt_of_block h.rbx) (by simp)).trans h.rbx, (hg.block _ (lt_of_block h.bbx) (by simp)).trans h.bbx, grown_trans h.since hg, h.lo.1, h.lo.2.1, h.lo.2.2.1, h.lo.2.2.2.1, Nat.le_trans h.size hg.size⟩
theorem TkB.nr (h : TkB w0 base hb rb bb hcs rcs bcs W v l) : ¬ W.heap.size = rb ∧ ¬ rb = W.heap.size ∧ ¬ W.heap.size = hb ∧ ¬ hb = W.heap.size := by
  have h1 := h.size
  have h2 := h.lo
  omega
theorem TkB.far (h : TkB w0 base hb rb bb hcs rcs bcs W v l) {q : Nat} (hq : q < base) : some q ≠ v.ownBlock := fun e => by
  have := (World.ownsRow.lt h.own q e.symm).1
  omega
theorem TkB.app (h : TkB w0 base hb rb bb hcs rcs bcs W v l) (ho : OwnB W' base 61 v' (l ++ k)) (hg : W.grownBy W' v.ownBlock) : TkB w0 base hb rb bb hcs rcs bcs W' v' (l ++ k) :=
  ⟨ho, (hg.block _ (lt_of_block h.hbx) (h.far h.lo.1)).trans h.hbx, (hg.block _ (lt_of_block h.rbx) (h.far h.lo.2.1)).trans h.rbx, (hg.block _ (lt_of_block h.bbx) (h.far h.lo.2.2.1)).trans h.bbx, grown_step h.since hg (fun i hi => .inl (Nat.le_trans h.lo.2.2.2.1 (World.ownsRow.lt h.own i hi).1)), h.lo.1, h.lo.2.1, h.lo.2.2.1, h.lo.2.2.2.1, Nat.le_trans h.size hg.size⟩
theorem TkB.used (h : TkB w0 base hb rb bb hcs rcs bcs W v l) : TkU w0 base hb rb bb W.heap.size hcs rcs bcs ucs (W.alloc (.cells ucs 61)) v l :=
  ⟨h.later (World.grownBy_alloc _ _ _), heap_alloc_new' _ _, fun e => by
    have := (World.ownsRow.lt h.own _ e).2
    omega⟩
theorem TkU.later (h : TkU w0 base hb rb bb ub hcs rcs bcs ucs W v l) (hg : W.grownBy W' none) : TkU w0 base hb rb bb ub hcs rcs bcs ucs W' v l :=
  ⟨h.tk.later hg, (hg.block _ (lt_of_block h.ubx) (by simp)).trans h.ubx, h.no⟩
theorem TkU.app (h : TkU w0 base hb rb bb ub hcs rcs bcs ucs W v l) (ho : OwnB W' base 61 v' (l ++ k)) (hg : W.grownBy W' v.ownBlock) (hv : v'.ownBlock = v.ownBlock ∨ v'.ownBlock = some W.heap.size) : TkU w0 base hb rb bb ub hcs rcs bcs ucs W' v' (l ++ k) :=
  ⟨h.tk.app ho hg, (hg.block _ (lt_of_block h.ubx) (fun e => h.no e.symm)).trans h.ubx, fun e => by
    rcases hv with h1 | h1
    · exact h.no (h1.symm.trans e)
    · rw [h1] at e
      injection e with e
      have := lt_of_block h.ubx
      omega⟩
theorem tk_start {w1 : World} (hg : w0.grownBy w1 none) (hx : w1.heap[hb]? = some (.cells hcs 30 (0, 0))) (hr : w1.heap[rb]? = some (.cells rcs 30 (0, 0))) : TkB w0 (w1.heap.size + 1) hb rb w1.heap.size hcs rcs bcs ((w1.alloc (.cells bcs 61)).alloc (.cells #[] 61)) (.slice (some ⟨w1.heap.size + 1, 0, none⟩) 0 0) [] :=
  ⟨ownB_none (by simp) (Nat.le_refl _), (Below.heap_alloc _ _ _ (by have := lt_of_block hx; simp; omega)).trans ((Below.heap_alloc _ _ _ (lt_of_block hx)).trans hx), (Below.heap_alloc _ _ _ (by have := lt_of_block hr; simp; omega)).trans ((Below.heap_alloc _ _ _ (lt_of_block hr)).trans hr), (Below.heap_alloc _ _ _ (by simp)).trans (heap_alloc_new' _ _), grown_trans hg (grown_trans (World.grownBy_alloc _ _ _) (World.grownBy_alloc _ _ _)), Nat.lt_succ_of_lt (lt_of_block hx), Nat.lt_succ_of_lt (lt_of_block hr), Nat.lt_succ_self _, Nat.le_succ_of_le hg.size, by simp⟩
theorem ten_cells {w : World} {b : Nat} {x0 x1 x2 x3 x4 x5 x6 x7 x8 x9 : Value} {t : TypeId} (h : w.heap[b]? = some (.cells #[x0, x1, x2, x3, x4, x5, x6, x7, x8, x9] t (0, 0))) : (w.cell? ⟨b, 0, none⟩ = some x0 ∧ w.cell? ⟨b, 1, none⟩ = some x1 ∧ w.cell? ⟨b, 2, none⟩ = some x2 ∧ w.cell? ⟨b, 3, none⟩ = some x3 ∧ w.cell? ⟨b, 4, none⟩ = some x4 ∧ w.cell? ⟨b, 5, none⟩ = some x5 ∧ w.cell? ⟨b, 6, none⟩ = some x6 ∧ w.cell? ⟨b, 7, none⟩ = some x7 ∧ w.cell? ⟨b, 8, none⟩ = some x8 ∧ w.cell? ⟨b, 9, none⟩ = some x9) ∧ ∀ i, i < 10 → w.frozen? ⟨b, i, none⟩ = false := by
  refine ⟨⟨by simp [World.cell?, h], by simp [World.cell?, h], by simp [World.cell?, h], by simp [World.cell?, h], by simp [World.cell?, h], by simp [World.cell?, h], by simp [World.cell?, h], by simp [World.cell?, h], by simp [World.cell?, h], by simp [World.cell?, h]⟩, fun i _ => by simp [World.frozen?, h]⟩
theorem ten_put {w : World} {b : Nat} {x0 x1 x2 x3 x4 x5 x6 x7 x8 x9 y0 y1 y2 y3 y4 y5 y6 y7 y8 y9 : Value} {t : TypeId} (h : w.heap[b]? = some (.cells #[x0, x1, x2, x3, x4, x5, x6, x7, x8, x9] t (0, 0))) : ((((((((((w.setCell ⟨b, 0, none⟩ y0).setCell ⟨b, 1, none⟩ y1).setCell ⟨b, 2, none⟩ y2).setCell ⟨b, 3, none⟩ y3).setCell ⟨b, 4, none⟩ y4).setCell ⟨b, 5, none⟩ y5).setCell ⟨b, 6, none⟩ y6).setCell ⟨b, 7, none⟩ y7).setCell ⟨b, 8, none⟩ y8).setCell ⟨b, 9, none⟩ y9).heap[b]? = some (.cells #[y0, y1, y2, y3, y4, y5, y6, y7, y8, y9] t (0, 0)) ∧ w.grownBy ((((((((((w.setCell ⟨b, 0, none⟩ y0).setCell ⟨b, 1, none⟩ y1).setCell ⟨b, 2, none⟩ y2).setCell ⟨b, 3, none⟩ y3).setCell ⟨b, 4, none⟩ y4).setCell ⟨b, 5, none⟩ y5).setCell ⟨b, 6, none⟩ y6).setCell ⟨b, 7, none⟩ y7).setCell ⟨b, 8, none⟩ y8).setCell ⟨b, 9, none⟩ y9) (some b) := by
  have h0 : (w.setCell ⟨b, 0, none⟩ y0).heap[b]? = some (.cells #[y0, x1, x2, x3, x4, x5, x6, x7, x8, x9] t (0, 0)) := by rw [heap_setCell_same h y0]; rfl
  have h1 : ((w.setCell ⟨b, 0, none⟩ y0).setCell ⟨b, 1, none⟩ y1).heap[b]? = some (.cells #[y0, y1, x2, x3, x4, x5, x6, x7, x8, x9] t (0, 0)) := by rw [heap_setCell_same h0 y1]; rfl
  have h2 : (((w.setCell ⟨b, 0, none⟩ y0).setCell ⟨b, 1, none⟩ y1).setCell ⟨b, 2, none⟩ y2).heap[b]? = some (.cells #[y0, y1, y2, x3, x4, x5, x6, x7, x8, x9] t (0, 0)) := by rw [heap_setCell_same h1 y2]; rfl
  have h3 : ((((w.setCell ⟨b, 0, none⟩ y0).setCell ⟨b, 1, none⟩ y1).setCell ⟨b, 2, none⟩ y2).setCell ⟨b, 3, none⟩ y3).heap[b]? = some (.cells #[y0, y1, y2, y3, x4, x5, x6, x7, x8, x9] t (0, 0)) := by rw [heap_setCell_same h2 y3]; rfl
  have h4 : (((((w.setCell ⟨b, 0, none⟩ y0).setCell ⟨b, 1, none⟩ y1).setCell ⟨b, 2, none⟩ y2).setCell ⟨b, 3, none⟩ y3).setCell ⟨b, 4, none⟩ y4).heap[b]? = some (.cells #[y0, y1, y2, y3, y4, x5, x6, x7, x8, x9] t (0, 0)) := by rw [heap_setCell_same h3 y4]; rfl
  have h5 : ((((((w.setCell ⟨b, 0, none⟩ y0).setCell ⟨b, 1, none⟩ y1).setCell ⟨b, 2, none⟩ y2).setCell ⟨b, 3, none⟩ y3).setCell ⟨b, 4, none⟩ y4).setCell ⟨b, 5, none⟩ y5).heap[b]? = some (.cells #[y0, y1, y2, y3, y4, y5, x6, x7, x8, x9] t (0, 0)) := by rw [heap_setCell_same h4 y5]; rfl
  have h6 : (((((((w.setCell ⟨b, 0, none⟩ y0).setCell ⟨b, 1, none⟩ y1).setCell ⟨b, 2, none⟩ y2).setCell ⟨b, 3, none⟩ y3).setCell ⟨b, 4, none⟩ y4).setCell ⟨b, 5, none⟩ y5).setCell ⟨b, 6, none⟩ y6).heap[b]? = some (.cells #[y0, y1, y2, y3, y4, y5, y6, x7, x8, x9] t (0, 0)) := by rw [heap_setCell_same h5 y6]; rfl
  have h7 : ((((((((w.setCell ⟨b, 0, none⟩ y0).setCell ⟨b, 1, none⟩ y1).setCell ⟨b, 2, none⟩ y2).setCell ⟨b, 3, none⟩ y3).setCell ⟨b, 4, none⟩ y4).setCell ⟨b, 5, none⟩ y5).setCell ⟨b, 6, none⟩ y6).setCell ⟨b, 7, none⟩ y7).heap[b]? = some (.cells #[y0, y1, y2, y3, y4, y5, y6, y7, x8, x9] t (0, 0)) := by rw [heap_setCell_same h6 y7]; rfl
  have h8 : (((((((((w.setCell ⟨b, 0, none⟩ y0).setCell ⟨b, 1, none⟩ y1).setCell ⟨b, 2, none⟩ y2).setCell ⟨b, 3, none⟩ y3).setCell ⟨b, 4, none⟩ y4).setCell ⟨b, 5, none⟩ y5).setCell ⟨b, 6, none⟩ y6).setCell ⟨b, 7, none⟩ y7).setCell ⟨b, 8, none⟩ y8).heap[b]? = some (.cells #[y0, y1, y2, y3, y4, y5, y6, y7, y8, x9] t (0, 0)) := by rw [heap_setCell_same h7 y8]; rfl
  have h9 : ((((((((((w.setCell ⟨b, 0, none⟩ y0).setCell ⟨b, 1, none⟩ y1).setCell ⟨b, 2, none⟩ y2).setCell ⟨b, 3, none⟩ y3).setCell ⟨b, 4, none⟩ y4).setCell ⟨b, 5, none⟩ y5).setCell ⟨b, 6, none⟩ y6).setCell ⟨b, 7, none⟩ y7).setCell ⟨b, 8, none⟩ y8).setCell ⟨b, 9, none⟩ y9).heap[b]? = some (.cells #[y0, y1, y2, y3, y4, y5, y6, y7, y8, y9] t (0, 0)) := by rw [heap_setCell_same h8 y9]; rfl
  have g0 : w.grownBy (w.setCell ⟨b, 0, none⟩ y0) (some b) := grown_set _ _ _ _
  have g1 : w.grownBy ((w.setCell ⟨b, 0, none⟩ y0).setCell ⟨b, 1, none⟩ y1) (some b) := grown_trans g0 (grown_set _ _ _ _)
  have g2 : w.grownBy (((w.setCell ⟨b, 0, none⟩ y0).setCell ⟨b, 1, none⟩ y1).setCell ⟨b, 2, none⟩ y2) (some b) := grown_trans g1 (grown_set _ _ _ _)
  have g3 : w.grownBy ((((w.setCell ⟨b, 0, none⟩ y0).setCell ⟨b, 1, none⟩ y1).setCell ⟨b, 2, none⟩ y2).setCell ⟨b, 3, none⟩ y3) (some b) := grown_trans g2 (grown_set _ _ _ _)
  have g4 : w.grownBy (((((w.setCell ⟨b, 0, none⟩ y0).setCell ⟨b, 1, none⟩ y1).setCell ⟨b, 2, none⟩ y2).setCell ⟨b, 3, none⟩ y3).setCell ⟨b, 4, none⟩ y4) (some b) := grown_trans g3 (grown_set _ _ _ _)
  have g5 : w.grownBy ((((((w.setCell ⟨b, 0, none⟩ y0).setCell ⟨b, 1, none⟩ y1).setCell ⟨b, 2, none⟩ y2).setCell ⟨b, 3, none⟩ y3).setCell ⟨b, 4, none⟩ y4).setCell ⟨b, 5, none⟩ y5) (some b) := grown_trans g4 (grown_set _ _ _ _)
  have g6 : w.grownBy (((((((w.setCell ⟨b, 0, none⟩ y0).setCell ⟨b, 1, none⟩ y1).setCell ⟨b, 2, none⟩ y2).setCell ⟨b, 3, none⟩ y3).setCell ⟨b, 4, none⟩ y4).setCell ⟨b, 5, none⟩ y5).setCell ⟨b, 6, none⟩ y6) (some b) := grown_trans g5 (grown_set _ _ _ _)
  have g7 : w.grownBy ((((((((w.setCell ⟨b, 0, none⟩ y0).setCell ⟨b, 1, none⟩ y1).setCell ⟨b, 2, none⟩ y2).setCell ⟨b, 3, none⟩ y3).setCell ⟨b, 4, none⟩ y4).setCell ⟨b, 5, none⟩ y5).setCell ⟨b, 6, none⟩ y6).setCell ⟨b, 7, none⟩ y7) (some b) := grown_trans g6 (grown_set _ _ _ _)
  have g8 : w.grownBy (((((((((w.setCell ⟨b, 0, none⟩ y0).setCell ⟨b, 1, none⟩ y1).setCell ⟨b, 2, none⟩ y2).setCell ⟨b, 3, none⟩ y3).setCell ⟨b, 4, none⟩ y4).setCell ⟨b, 5, none⟩ y5).setCell ⟨b, 6, none⟩ y6).setCell ⟨b, 7, none⟩ y7).setCell ⟨b, 8, none⟩ y8) (some b) := grown_trans g7 (grown_set _ _ _ _)
  have g9 : w.grownBy ((((((((((w.setCell ⟨b, 0, none⟩ y0).setCell ⟨b, 1, none⟩ y1).setCell ⟨b, 2, none⟩ y2).setCell ⟨b, 3, none⟩ y3).setCell ⟨b, 4, none⟩ y4).setCell ⟨b, 5, none⟩ y5).setCell ⟨b, 6, none⟩ y6).setCell ⟨b, 7, none⟩ y7).setCell ⟨b, 8, none⟩ y8).setCell ⟨b, 9, none⟩ y9) (some b) := grown_trans g8 (grown_set _ _ _ _)
  exact ⟨h9, g9⟩
end
end Go.Proofs.YtcbdbflgfhbikaaGreat
