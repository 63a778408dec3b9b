/-
  What stands behind Take: the blocks, the tree and the lists are the document's, where its steps' words are told.
  No condition: plain mathematics of layer 10.
-/
import Derived.Test.YtoamlkljfmgomaaGreatCarN
namespace Go.Proofs.YtoamlkljfmgomaaGreat
open Go.RowKit
set_option linter.unusedVariables false
set_option linter.unusedSimpArgs false

/-- a block amid the others -/
structure AtB (f : Nat → Nat) (E : Nat) (bs A C : List Blk) (b : Blk) : Prop where
  eq : bs = A ++ ([b] ++ C)
  ahead : Told f E 3776 A b.off
  is : BkIs f E b
  behind : Told f E (b.off + b.s) C E
section
variable {f f0 f1 f2 f3 f4 f5 g : Nat → Nat} {E : Nat} {bs A C : List Blk} {b : Blk} {L : Nat → List Nat}
theorem atB_of (h : Told f E 3776 bs E) {i : Nat} (hi : i < bs.length) : AtB f E bs (bs.take i) (bs.drop (i + 1)) (bs.getD i default) := by
  have e : bs = bs.take i ++ ([bs.getD i default] ++ bs.drop (i + 1)) := by
    have h1 : bs.getD i default = bs[i] := by rw [List.getD_eq_getElem?_getD, List.getElem?_eq_getElem hi]; rfl
    rw [h1, List.singleton_append, ← List.drop_eq_getElem_cons hi, List.take_append_drop]
  have h2 := h
  rw [e] at h2
  obtain ⟨m, h3, h4⟩ := told_append.1 h2
  obtain ⟨h5, h6, h7⟩ := h4
  subst h5
  exact ⟨e, h3, h6, h7⟩
theorem AtB.out (h : AtB f E bs A C b) : (∀ x ∈ A, x.off + x.s ≤ b.off) ∧ ∀ x ∈ C, b.off + b.s ≤ x.off := ⟨fun x hx => (h.ahead.within x hx).2, fun x hx => (h.behind.within x hx).1⟩
/-- the other free blocks -/
theorem AtB.frees (h : AtB f E bs A C b) (hu : b.u = false) (hT : Told f E 3776 bs E) : ((freesB bs).filter fun a => decide (a ≠ b.off)) = freesB A ++ freesB C := by
  obtain ⟨o1, o2⟩ := h.out
  have hs := h.is.size
  have hz := h.ahead.is
  have ef : freesB [b] = [b.off] := by simp [freesB, hu]
  rw [h.eq, freesB_append, freesB_append, ef, List.filter_append, List.filter_append, List.filter_cons, if_neg (by simp), List.filter_nil, List.nil_append, List.filter_eq_self.2, List.filter_eq_self.2]
  · intro y hy
    obtain ⟨c, hc, _, rfl⟩ := freesB_mem.1 hy
    have := o2 c hc
    exact decide_eq_true (by omega)
  · intro y hy
    obtain ⟨c, hc, _, rfl⟩ := freesB_mem.1 hy
    have := o1 c hc
    have := (h.ahead.is c hc).size
    exact decide_eq_true (by omega)
theorem AtB.free_out (h : AtB f E bs A C b) : ∀ y ∈ freesB A ++ freesB C, 3776 ≤ y ∧ (y + 48 ≤ b.off ∨ b.off + b.s ≤ y) := fun y hy => by
  obtain ⟨o1, o2⟩ := h.out
  rcases List.mem_append.1 hy with hy | hy
  · obtain ⟨c, hc, _, rfl⟩ := freesB_mem.1 hy
    have := o1 c hc
    have := (h.ahead.is c hc).size
    have := (h.ahead.is c hc).lo
    omega
  · obtain ⟨c, hc, _, rfl⟩ := freesB_mem.1 hy
    have := o2 c hc
    have := (h.behind.is c hc).lo
    omega
theorem AtB.used_out (h : AtB f E bs A C b) (hu : b.u = false) : usedB bs = usedB A ++ usedB C ∧ ∀ y ∈ usedB bs, 3776 ≤ y ∧ (y + 48 ≤ b.off ∨ b.off + b.s ≤ y) := by
  obtain ⟨o1, o2⟩ := h.out
  have e : usedB bs = usedB A ++ usedB C := by
    have ef : usedB [b] = [] := by simp [usedB, hu]
    rw [h.eq, usedB_append, usedB_append, ef, List.nil_append]
  refine ⟨e, fun y hy => ?_⟩
  rw [e] at hy
  rcases List.mem_append.1 hy with hy | hy
  · obtain ⟨c, hc, _, rfl⟩ := usedB_mem.1 hy
    have := o1 c hc
    have := (h.ahead.is c hc).size
    have := (h.ahead.is c hc).lo
    omega
  · obtain ⟨c, hc, _, rfl⟩ := usedB_mem.1 hy
    have := o2 c hc
    have := (h.behind.is c hc).lo
    omega
/-- what is behind the block is cut -/
structure CutW (O S P N sz n : Nat) (owner : Nat) (f5 : Nat → Nat) : Prop where
  pad : P ≠ 0 → f5 O = packN P false 0 ∧ f5 (O + P - 8) = packN P false 0
  rest : ¬ S - P - N < 48 → f5 (O + P + N) = packN (S - P - N) false 0 ∧ f5 (O + S - 8) = packN (S - P - N) false 0
  used : f5 (O + P) = packN sz true owner ∧ f5 (O + P + sz - 8) = packN sz true owner
  len : f5 (O + P + 8) = n
theorem may_false {s : Nat} (h1 : s % 16 = 0) (h2 : 48 ≤ s) (h3 : s ≤ 1048576) : mayP s false 0 := ⟨h1, h2, h3, by decide, by decide, .inr rfl⟩
theorem may_true {s owner : Nat} (h1 : s % 16 = 0) (h2 : 48 ≤ s) (h3 : s ≤ 1048576) (h4 : owner ≤ 8) : mayP s true (owner : Int) := ⟨h1, h2, h3, by omega, by omega, .inl rfl⟩
theorem free_is {s off : Nat} (h1 : s % 16 = 0) (h2 : 48 ≤ s) (h3 : off % 16 = 0) (h4 : 3776 ≤ off) (h5 : off + s ≤ E) (hE : E ≤ 4800) (e1 : f off = packN s false 0) (e2 : f (off + s - 8) = packN s false 0) : BkIs f E (freeB off s) :=
  ⟨may_false h1 h2 (by show s ≤ 1048576; omega), h3, h4, h5, e1, e2, by unfold freeB; simp⟩
theorem used_is {s off n owner : Nat} (h1 : s % 16 = 0) (h2 : 48 ≤ s) (h3 : off % 16 = 0) (h4 : 3776 ≤ off) (h5 : off + s ≤ E) (hE : E ≤ 4800) (ho : owner ≤ 8) (e1 : f off = packN s true (owner : Int)) (e2 : f (off + s - 8) = packN s true (owner : Int)) (e3 : f (off + 8) = n) (h6 : n + 40 ≤ s) : BkIs f E ⟨off, s, true, owner, n⟩ :=
  ⟨may_true h1 h2 (by show s ≤ 1048576; omega) ho, h3, h4, h5, e1, e2, by simp only [if_true]; exact ⟨e3, h6⟩⟩
/-- the size of the used block -/
def cutS (S P N : Nat) : Nat := if S - P - N < 48 then S - P else N
theorem cut_told {P N n owner : Nat} (hb : b.off % 16 = 0 ∧ b.s % 16 = 0 ∧ 3776 ≤ b.off ∧ b.off + b.s ≤ E) (hE : E ≤ 4800) (hP : P % 16 = 0 ∧ (P = 0 ∨ 48 ≤ P)) (hN : N % 16 = 0 ∧ 48 ≤ N) (hn : n + 40 ≤ N) (hfit : P + N ≤ b.s) (ho : owner ≤ 8) (h : CutW b.off b.s P N (cutS b.s P N) n owner f5) :
    Told f5 E b.off (cutB b P N owner n) (b.off + b.s) := by
  obtain ⟨b1, b2, b3, b4⟩ := hb
  have hu := h.used
  unfold cutS at hu
  unfold cutB
  have tail : Told f5 E (b.off + P) (⟨b.off + P, if b.s - P - N < 48 then b.s - P else N, true, owner, n⟩ :: if b.s - P - N < 48 then [] else [freeB (b.off + P + N) (b.s - P - N)]) (b.off + b.s) := by
    by_cases hr : b.s - P - N < 48
    · rw [if_pos hr] at hu ⊢
      rw [if_pos hr]
      exact ⟨rfl, used_is (by omega) (by omega) (by omega) (by omega) (by omega) hE ho hu.1 hu.2 h.len (by omega), by show b.off + P + (b.s - P) = b.off + b.s; omega⟩
    · rw [if_neg hr] at hu ⊢
      rw [if_neg hr]
      obtain ⟨r1, r2⟩ := h.rest hr
      refine ⟨rfl, used_is hN.1 hN.2 (by omega) (by omega) (by omega) hE ho hu.1 hu.2 h.len hn, rfl, free_is (by omega) (by omega) (by omega) (by omega) (by omega) hE r1 ?_, by show b.off + P + N + (b.s - P - N) = b.off + b.s; omega⟩
      rw [show b.off + P + N + (b.s - P - N) - 8 = b.off + b.s - 8 by omega]
      exact r2
  by_cases hp : P = 0
  · subst hp
    rw [if_pos rfl, List.nil_append]
    exact tail
  · rw [if_neg hp]
    obtain ⟨p1, p2⟩ := h.pad hp
    exact ⟨rfl, free_is hP.1 (by omega) b1 b3 (by omega) hE p1 p2, tail⟩
theorem cut_frees {P N n owner : Nat} : freesB (cutB b P N owner n) = (if P = 0 then [] else [b.off]) ++ (if b.s - P - N < 48 then [] else [b.off + P + N]) := by
  unfold cutB freesB freeB
  by_cases h1 : P = 0 <;> by_cases h2 : b.s - P - N < 48
  · rw [if_pos h1, if_pos h1, if_pos h2, if_pos h2]; simp [h2]
  · rw [if_pos h1, if_pos h1, if_neg h2, if_neg h2]; simp [h2]
  · rw [if_neg h1, if_neg h1, if_pos h2, if_pos h2]; simp [h2]
  · rw [if_neg h1, if_neg h1, if_neg h2, if_neg h2]; simp [h2]
theorem cut_used {P N n owner : Nat} : usedB (cutB b P N owner n) = [b.off + P] := by
  unfold cutB usedB freeB
  by_cases h1 : P = 0 <;> by_cases h2 : b.s - P - N < 48
  · rw [if_pos h1, if_pos h2]; simp
  · rw [if_pos h1, if_neg h2]; simp
  · rw [if_neg h1, if_pos h2]; simp
  · rw [if_neg h1, if_neg h2]; simp
theorem cut_perm {P N n owner : Nat} : ((freesB A ++ freesB C) ++ (if P = 0 then [] else [b.off]) ++ (if b.s - P - N < 48 then [] else [b.off + P + N])).Perm (freesB (A ++ (cutB b P N owner n ++ C))) := by
  rw [freesB_append, freesB_append, cut_frees, List.append_assoc, List.append_assoc, List.append_assoc]
  refine List.Perm.append_left _ ?_
  rw [← List.append_assoc, ← List.append_assoc, List.append_assoc]
  exact List.perm_append_comm
/-- the heap behind, but for the lists -/
theorem cut_heap {P N n owner : Nat} (hF : HeapF f0 E bs) (hat : AtB f0 E bs A C b) (hu : b.u = false) (hP : P % 16 = 0 ∧ (P = 0 ∨ 48 ≤ P)) (hN : N % 16 = 0 ∧ 48 ≤ N) (hn : n + 40 ≤ N) (hfit : P + N ≤ b.s) (ho : owner ≤ 8)
    (hS : Stay f0 f5 b.off (b.off + b.s) (freesB A ++ freesB C)) (hW : CutW b.off b.s P N (cutS b.s P N) n owner f5) (hH : Hung f5 ((freesB A ++ freesB C) ++ (if P = 0 then [] else [b.off]) ++ (if b.s - P - N < 48 then [] else [b.off + P + N]))) :
    HeapF f5 E (A ++ (cutB b P N owner n ++ C)) := by
  have hs := hat.is.size
  have hF' := hF
  rw [hat.eq] at hF'
  exact hF'.swap hat.ahead hat.behind hS (cut_told ⟨hat.is.al, hs.2, hat.is.lo, hat.is.hi⟩ hF.low hP hN hn hfit ho hW) (by omega) (hH.perm cut_perm)
theorem take_eq (bs : List Blk) (i P N owner n : Nat) : takeB bs i P N owner n = bs.take i ++ (cutB (bs.getD i default) P N owner n ++ bs.drop (i + 1)) := by unfold takeB; rw [List.append_assoc]
theorem cut_mg {P N n owner : Nat} (hm : Mg (A ++ ([b] ++ C))) (hu : b.u = false) : Mg (A ++ (cutB b P N owner n ++ C)) := by
  obtain ⟨m1, m2, m3⟩ := mg_append.1 hm
  have m4 : ∀ x, A.getLast? = some x → x.u = true := fun x hx => by
    rcases m3 x b hx rfl with h | h
    · exact h
    · rw [hu] at h; cases h
  have m5 : ∀ x, C.head? = some x → x.u = true := fun x hx => by
    obtain ⟨_, _, k⟩ := mg_append.1 m2
    rcases k b x rfl hx with h | h
    · rw [hu] at h; cases h
    · exact h
  have m6 : Mg C := (mg_append.1 m2).2.1
  have tail : ∀ (o s : Nat), Mg ((⟨o, s, true, owner, n⟩ :: if b.s - P - N < 48 then [] else [freeB (b.off + P + N) (b.s - P - N)]) ++ C) := fun o s => by
    by_cases hr : b.s - P - N < 48
    · rw [if_pos hr]
      exact mg_append.2 ⟨trivial, m6, fun x y hx hy => .inr (m5 y hy)⟩
    · rw [if_neg hr]
      exact mg_append.2 ⟨⟨.inl rfl, trivial⟩, m6, fun x y hx hy => .inr (m5 y hy)⟩
  unfold cutB
  by_cases hp : P = 0
  · rw [if_pos hp, List.nil_append]
    exact mg_append.2 ⟨m1, tail _ _, fun x y hx hy => .inl (m4 x hx)⟩
  · rw [if_neg hp, List.append_assoc]
    refine mg_append.2 ⟨m1, mg_append.2 ⟨trivial, tail _ _, fun x y hx hy => .inr ?_⟩, fun x y hx hy => .inl (m4 x hx)⟩
    have : y = _ := (Option.some.inj hy).symm
    rw [this]
/-- the lists ahead of Link: the block is in none of them -/
theorem cut_ledg {P N n owner : Nat} (h : SoundF f0 E bs L) (hat : AtB f0 E bs A C b) (hu : b.u = false) (hlt : P < b.s) (hS : Stay f0 f5 b.off (b.off + b.s) (freesB A ++ freesB C)) :
    Ledg (usedB (A ++ (cutB b P N owner n ++ C))) f5 L ∧ ∀ c, c < 8 → b.off + P ∉ L c := by
  have hs := hat.is.size
  have hlo := hat.is.lo
  obtain ⟨e, hU⟩ := hat.used_out hu
  have hF := hat.free_out
  have h1 : Ledg (usedB bs) f5 L := h.ledg.stay hS hlo (fun y hy => (hF y hy).1) fun x hx => by
    refine ⟨(hU x hx).1, (hU x hx).2, fun y hy => ?_⟩
    have hyb : y ∈ freesB bs := by
      rw [hat.eq, freesB_append, freesB_append]
      simp only [List.mem_append] at hy ⊢
      rcases hy with hy | hy
      · exact .inl hy
      · exact .inr (.inr hy)
    obtain ⟨c, hc, hcu, rfl⟩ := usedB_mem.1 hx
    have hcs := (h.told.is c hc).size
    rcases h.told.free_far hc hyb with k | k
    · rw [hcu] at k; exact absurd k.2 (by decide)
    · omega
  refine ⟨h1.field fun c hc x hx => ?_, fun c hc hx => ?_⟩
  · have := h1.on c hc x hx
    rw [e] at this
    rw [usedB_append, usedB_append]
    simp only [List.mem_append] at this ⊢
    rcases this with k | k
    · exact .inl k
    · exact .inr (.inr k)
  · have := (hU _ (h.ledg.on c hc _ hx)).2
    omega
theorem cut_whose {P N n owner : Nat} (h : SoundF f0 E bs L) (hat : AtB f0 E bs A C b) (hlt : P < b.s) (ho : owner ≤ 8) (hno : ∀ c, c < 8 → b.off + P ∉ L c) :
    ∀ x ∈ A ++ (cutB b P N owner n ++ C), x.u = true → ∀ c, c < 8 → (x.off ∈ takeL L owner (b.off + P) c ↔ x.o = (c : Int) + 1) := by
  intro x hx hxu c hc
  obtain ⟨o1, o2⟩ := hat.out
  have hs := hat.is.size
  have old : x ∈ bs → x.off ≠ b.off + P → (x.off ∈ takeL L owner (b.off + P) c ↔ x.o = (c : Int) + 1) := fun hxb hne => by
    rw [← h.whose x hxb hxu c hc]
    unfold takeL
    by_cases h0 : owner = 0
    · rw [if_pos h0]
    · rw [if_neg h0]
      by_cases e : c = owner - 1
      · subst e
        rw [setL_same, List.mem_cons]
        exact ⟨fun k => k.elim (fun k => absurd k hne) id, .inr⟩
      · rw [setL_other _ e]
  rcases List.mem_append.1 hx with hx | hx
  · have := o1 x hx
    have := (hat.ahead.is x hx).size
    exact old (by rw [hat.eq]; simp [hx]) (by omega)
  rcases List.mem_append.1 hx with hx | hx
  · have hxo : x.off = b.off + P ∧ x.o = owner := by
      unfold cutB at hx
      simp only [List.mem_append, List.mem_cons] at hx
      rcases hx with hx | rfl | hx
      · by_cases hp : P = 0
        · rw [if_pos hp] at hx; cases hx
        · rw [if_neg hp] at hx
          rw [List.mem_singleton.1 hx] at hxu
          cases hxu
      · exact ⟨rfl, rfl⟩
      · by_cases hr : b.s - P - N < 48
        · rw [if_pos hr] at hx; cases hx
        · rw [if_neg hr] at hx
          rw [List.mem_singleton.1 hx] at hxu
          cases hxu
    rw [hxo.1, hxo.2]
    unfold takeL
    by_cases h0 : owner = 0
    · rw [if_pos h0]
      exact ⟨fun k => absurd k (hno c hc), fun k => by omega⟩
    · rw [if_neg h0]
      by_cases e : c = owner - 1
      · subst e
        rw [setL_same]
        exact ⟨fun _ => by omega, fun _ => by simp⟩
      · rw [setL_other _ e]
        exact ⟨fun k => absurd k (hno c hc), fun k => absurd (by omega) e⟩
  · have := o2 x hx
    exact old (by rw [hat.eq]; simp [hx]) (by omega)
end
end Go.Proofs.YtoamlkljfmgomaaGreat
