/-
  Texts of one layer, one behind the other: memory, contracts of the functions, and what follows of them.
  Conditions: as each theorem says.
-/
import Derived.Test.YtfhiljglfhekdaaGreatLRec
import Derived.Deep.RegionHeld3
set_option linter.unusedVariables false
set_option linter.unusedSimpArgs false
set_option maxRecDepth 100000
namespace Go.Proofs.YtfhiljglfhekdaaGreat
open Go.RowKit
section
section
variable {K E n owner i p:Nat} {bs A C:List Blk} {b:Blk} {L:Nat→List Nat}
theorem Fine.more {K':Nat} (h:Fine K E bs L) (hk:K≤K'):Fine K' E bs L:=⟨Nat.le_trans h.few hk,h.low,h.is,fun c hc=>Nat.le_trans (h.lists c hc) hk⟩
theorem Fine.relen (h:Fine K E (A++b::C) L) (hn:n+40≤b.s):Fine K E (A++⟨b.off,b.s,b.u,b.o,n⟩::C) L:=by
 refine ⟨by have:=h.few;simpa using this,h.low,fun x hx=>?_,h.lists⟩
 rcases List.mem_append.1 hx with h1|h1
 ·exact h.is x (by simp [h1])
 ·rcases List.mem_cons.1 h1 with h2|h2
  ·obtain ⟨a1,a2,a3,_⟩:=h.is b (by simp)
   rw [h2]
   exact ⟨a1,a2,a3,fun _=>hn⟩
  ·exact h.is x (by simp [h2])
theorem Fine.take (h:Fine K E bs L) (ho:owner≤8):Fine (K+1) E (tkB bs owner n 16) (tkL bs L owner n 16):=by
 unfold tkB tkL
 cases hf:fitM bs n 16 with
 | none=>exact h.more (Nat.le_succ K)
 | some i =>
  obtain ⟨hi,hu,hn,_⟩:=fitM_is hf
  obtain ⟨a1,a2,a3,_⟩:=h.is _ (getB_mem hi)
  have hm:=may_bounds a1
  have hnb:=need_bounds n
  have h0:=pad16 (off:=gO bs i) a2
  have hlow:=h.low
  dsimp only
  rw [h0,take_eq]
  have hlen:bs.length=(bs.take i++bs.getD i default::bs.drop (i+1)).length:=congrArg List.length (bs_amid hi)
  have hfew:=h.few
  unfold cutB
  rw [if_pos rfl]
  refine ⟨?_,h.low,fun x hx=>?_,fun c hc=>?_⟩
  ·have:((if (bs.getD i default).s - 0 - Yat n<48 then [] else [Ya4 ((bs.getD i default).off+0+Yat n) ((bs.getD i default).s - 0 - Yat n)]):List Blk).length≤1:=by
    split <;> simp
   simp only [List.length_append,List.length_cons,List.length_nil] at hlen ⊢
   omega
  ·have hin:x∈bs.take i∨x∈bs.drop (i+1)∨x=⟨(bs.getD i default).off+0,if (bs.getD i default).s - 0 - Yat n<48 then (bs.getD i default).s - 0 else Yat n,true,(owner:Int),n⟩∨(¬ (bs.getD i default).s - 0 - Yat n<48∧x=Ya4 ((bs.getD i default).off+0+Yat n) ((bs.getD i default).s - 0 - Yat n)):=by
    simp only [List.nil_append,List.mem_append,List.mem_cons] at hx
    rcases hx with h1|(h1|h1)|h1
    ·exact .inl h1
    ·exact .inr (.inr (.inl h1))
    ·by_cases h4:(bs.getD i default).s - 0 - Yat n<48
     ·rw [if_pos h4] at h1;cases h1
     ·rw [if_neg h4] at h1
      exact .inr (.inr (.inr ⟨h4,by simpa using h1⟩))
    ·exact .inr (.inl h1)
   rcases hin with h1|h1|h1|⟨h4,h1⟩
   ·exact h.is x (List.mem_of_mem_take h1)
   ·exact h.is x (List.mem_of_mem_drop h1)
   ·rw [h1]
    by_cases h4:(bs.getD i default).s - 0 - Yat n<48
    ·simp only [h4,if_true]
     exact ⟨may_true (by omega) (by omega) (by omega) ho,by omega,by omega,fun _=>by omega⟩
    ·simp only [h4,if_false]
     exact ⟨may_true (by omega) (by omega) (by omega) ho,by omega,by omega,fun _=>by omega⟩
   ·rw [h1]
    refine ⟨(may_false (s:=(bs.getD i default).s - 0 - Yat n) (by omega) (by omega) (by omega):mayP ((bs.getD i default).s - 0 - Yat n) false 0),?_,?_,fun hq=>by cases hq⟩
    ·show ((bs.getD i default).off+0+Yat n) % 16=0
     omega
    ·show (bs.getD i default).off+0+Yat n+((bs.getD i default).s - 0 - Yat n)≤E
     omega
  ·unfold Ydl
   have:=h.lists c hc
   split
   ·omega
   ·unfold setL
    split
    ·rename_i e
     rw [e] at this
     simp only [List.length_cons]
     omega
    ·omega
end
theorem heapV_blk {E E':Nat} {b b':Value} {vs vs':Nat→Value} (h:Ya1 E b vs=Ya1 E' b' vs'):b=b':=by
 unfold Ya1 at h
 simp only [Value.agg.injEq,Array.mk.injEq,List.cons.injEq] at h
 exact h.2.1
def lenB (bs:List Blk) (i n:Nat):List Blk:=bs.take i++⟨gO bs i,gS bs i,gU bs i,gW bs i,n⟩::bs.drop (i+1)
def rzE (bs:List Blk) (p n:Nat):Nat:=match fstN (pF p) bs with|none=>4|some i=>if 18446744073709551560<n then 2 else if Yat n≤gS bs i then 0 else tkE bs n 16
def rzP (bs:List Blk) (p n:Nat):Nat:=match fstN (pF p) bs with|none=>0|some i=>if 18446744073709551560<n then 0 else if Yat n≤gS bs i then p else tkP bs n 16
def rzB (bs:List Blk) (p n:Nat):List Blk:=match fstN (pF p) bs with|none=>bs|some i=>if 18446744073709551560<n then bs else if Yat n≤gS bs i then ctB (lenB bs i n) p (Yat n) else match fitM bs n 16 with|none=>bs|some _=>frB (tkB bs (gW bs i).toNat n 16) p
def rzL (bs:List Blk) (L:Nat→List Nat) (p n:Nat):Nat→List Nat:=match fstN (pF p) bs with|none=>L|some i=>if 18446744073709551560<n then L else if Yat n≤gS bs i then L else match fitM bs n 16 with|none=>L|some _=>frL (tkB bs (gW bs i).toNat n 16) (tkL bs L (gW bs i).toNat n 16) p
end
end Go.Proofs.YtfhiljglfhekdaaGreat
