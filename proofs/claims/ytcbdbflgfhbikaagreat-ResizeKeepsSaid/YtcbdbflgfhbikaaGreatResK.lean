/-
  What a resized block has: the words behind Resize, told by those ahead.
  Conditions: as said at each.
-/
import Derived.Test.YtcbdbflgfhbikaaGreatResE
import Derived.Test.YtcbdbflgfhbikaaGreatLRse
import Derived.Test.YtcbdbflgfhbikaaGreatLCal
namespace Go.Proofs.YtcbdbflgfhbikaaGreat
open Go.RowKit
set_option linter.unusedVariables false
set_option linter.unusedSimpArgs false
set_option maxRecDepth 100000

section
variable {f f':Nat→Nat} {E p i n:Nat} {bs l out:List Blk} {b x:Blk} {L L':Nat→List Nat}
theorem used_joinS_mem (hx:x.u=true) (h:x∈out∨x=b):x∈joinS out b:=by
 unfold joinS
 cases hl:out.getLast? with
 | none =>
  dsimp only
  rcases h with h|h
  ·exact List.mem_append_left _ h
  ·exact List.mem_append_right _ (by simp [h])
 | some q =>
  dsimp only
  by_cases hc:q.u=false∧b.u=false
  ·rw [if_pos hc]
   rcases h with h|h
   ·refine List.mem_append_left _ ?_
    have hne:out≠[]:=by rintro rfl;cases hl
    have he:out=out.dropLast++[q]:=by
     have h1:=List.dropLast_concat_getLast hne
     rw [List.getLast?_eq_some_getLast hne] at hl
     injection hl with hl
     rw [← hl,h1]
    rw [he] at h
    rcases List.mem_append.1 h with h2|h2
    ·exact h2
    ·rw [List.mem_singleton.1 h2,hc.1] at hx;cases hx
   ·rw [h,hc.2] at hx;cases hx
  ·rw [if_neg hc]
   rcases h with h|h
   ·exact List.mem_append_left _ h
   ·exact List.mem_append_right _ (by simp [h])
theorem used_fold_mem (hx:x.u=true):∀ (l out:List Blk),x∈out∨x∈l→x∈l.foldl joinS out
 | [],out,h=>by
  rcases h with h|h
  ·exact h
  ·cases h
 | b::l,out,h=>by
  rw [List.foldl_cons]
  refine used_fold_mem hx l _ ?_
  rcases h with h|h
  ·exact .inl (used_joinS_mem hx (.inl h))
  ·rcases List.mem_cons.1 h with h2|h2
   ·exact .inl (used_joinS_mem hx (.inr h2))
   ·exact .inr h2
/-- a used block of another payload is there still when one is freed -/
theorem mem_freed (hx:x∈bs) (hu:x.u=true) (hp:(x.off+32) % 18446744073709551616≠p):x∈frB bs p:=by
 unfold frB
 cases hf:fstN (pF p) bs with
 | none=>exact hx
 | some i =>
  obtain ⟨hi,_,hpi⟩:=pF_some hf
  dsimp only
  refine used_fold_mem hu _ _ (.inr ?_)
  rw [bs_amid hi] at hx
  rcases List.mem_append.1 hx with h1|h1
  ·exact List.mem_append_left _ h1
  ·rcases List.mem_cons.1 h1 with h2|h2
   ·rw [h2] at hp;exact absurd hpi hp
   ·exact List.mem_append_right _ (List.mem_cons_of_mem _ h2)
/-- The block that Resize tells, or that stays, and its words. -/
theorem rz_keeps (h:SoundF f E bs L) (hf:fstN (pF p) bs=some i) (hn:n<600) (hw:RzW bs p n f f') {wa:Nat} (hwa:(gN bs i+7) / 8=wa) (hP:∀ j,j<wa→f (p+8*j)=1000+j) :
  ∃ b2,b2∈rzB bs p n∧b2.u=true∧b2.o=gW bs i∧(∀ j,j<(b2.n+7) / 8→f' (b2.off+32+8*j)=if j<wa then 1000+j else 0) ∧
   ((rzE bs p n=0∧b2.off+32=rzP bs p n∧b2.n=n)∨(rzE bs p n=3∧rzP bs p n=0∧b2.off+32=p∧b2=bs.getD i default)):=by
 obtain ⟨hi,hu,hp⟩:=pF_some hf
 have hpay:=h.pay hf
 have hbi:=h.told.is _ (getB_mem hi)
 have hlen:=hbi.len
 rw [if_pos hu] at hlen
 have hsz:=hbi.size
 have hhi:=hbi.hi
 have hlow:=h.low
 have h18:¬ 18446744073709551560<n:=by omega
 have hwords:=hw.words i hf
 rw [hwa] at hwords
 by_cases h0:rzE bs p n=0
 ·have hwd:∀ j,j<(n+7) / 8→f' (rzP bs p n+8*j)=if j<wa then 1000+j else 0:=fun j hj=>by
   rw [hwords h0 j hj]
   by_cases hj2:j<wa
   ·rw [if_pos hj2,if_pos hj2,hP j hj2]
   ·rw [if_neg hj2,if_neg hj2]
  by_cases hle:needOf n≤gS bs i
  ·-- where it stands
   have hnb:=need_bounds n
   have hbs:=bs_amid hi
   have hti:(bs.take i).length=i:=by rw [List.length_take];omega
   have hns:n+40≤(bs.getD i default).s:=by unfold gS at hle;omega
   have eP:rzP bs p n=p:=by unfold rzP;rw [hf];dsimp only;rw [if_neg h18,if_pos hle]
   have eB:rzB bs p n=ctB (lenB bs i n) p (needOf n):=by unfold rzB;rw [hf];dsimp only;rw [if_neg h18,if_pos hle]
   have hbf:fstN (pF p) (rzB bs p n)=some i∧∃ s,(rzB bs p n).getD i default=⟨(bs.getD i default).off,s,(bs.getD i default).u,(bs.getD i default).o,n⟩:=by
    rw [eB]
    unfold lenB gO gS gU gW
    obtain ⟨b,hb⟩:∃ b,bs.getD i default=b:=⟨_,rfl⟩
    obtain ⟨A,hA⟩:∃ A,bs.take i=A:=⟨_,rfl⟩
    obtain ⟨C,hC⟩:∃ C,bs.drop (i+1)=C:=⟨_,rfl⟩
    rw [hb,hA,hC] at hbs
    rw [hb] at hns
    rw [hA] at hti
    rw [hb,hA,hC]
    have h2:=h
    have hf2:=hf
    rw [hbs] at h2 hf2
    rw [← hti] at hf2 ⊢
    obtain ⟨h1,s,h3,_⟩:=back_find (n:=n) h2 hf2 hns
    exact ⟨h1,s,h3⟩
   obtain ⟨hbf,s,hs⟩:=hbf
   have hm:=getB_mem (fstN_some hbf).1
   rw [hs] at hm
   refine ⟨_,hm,hu,rfl,fun j hj=>?_,.inl ⟨h0,?_,rfl⟩⟩
   ·have:=hwd j hj
    rw [eP,hpay] at this
    exact this
   ·rw [eP,hpay]
  ·-- taken anew
   have e0:tkE bs n 16=0:=by
    have:=h0
    unfold rzE at this
    rw [hf] at this
    dsimp only at this
    rw [if_neg h18,if_neg hle] at this
    exact this
   cases hq:fitM bs n 16 with
   | none=>unfold tkE at e0;rw [hq] at e0;exact absurd e0 (by decide)
   | some j =>
    obtain ⟨hj,hju,hjn,_⟩:=fitM_is hq
    have hbj:=h.told.is _ (getB_mem hj)
    have hpd:=pad16 (off:=gO bs j) hbj.al
    have hjh:=hbj.hi
    have eP:rzP bs p n=gO bs j+32:=by
     unfold rzP
     rw [hf]
     dsimp only
     rw [if_neg h18,if_neg hle]
     unfold tkP
     rw [hq]
     dsimp only
     rw [hpd,Nat.add_zero]
    have eB:rzB bs p n=frB (tkB bs (gW bs i).toNat n 16) p:=by
     unfold rzB
     rw [hf]
     dsimp only
     rw [if_neg h18,if_neg hle,hq]
    have how:(((gW bs i).toNat:Nat):Int)=gW bs i:=by
     have:=(may_bounds hbi.may).2.2.2.1
     unfold gW
     omega
    obtain ⟨sz,hszz⟩:∃ sz,(if (bs.getD j default).s - 0 - needOf n<48 then (bs.getD j default).s - 0 else needOf n)=sz:=⟨_,rfl⟩
    have hm:(⟨gO bs j,sz,true,gW bs i,n⟩:Blk)∈tkB bs (gW bs i).toNat n 16:=by
     unfold tkB
     rw [hq]
     dsimp only
     rw [hpd]
     unfold takeB cutB
     rw [if_pos rfl,hszz,how]
     refine List.mem_append_left _ (List.mem_append_right _ (List.mem_append_right _ ?_))
     exact List.mem_cons_self
    have hne:gO bs j≠(bs.getD i default).off:=fun e=>by
     have:=h.told.one (getB_mem hj) (getB_mem hi) e
     rw [this,hu] at hju
     cases hju
    refine ⟨⟨gO bs j,sz,true,gW bs i,n⟩,?_,rfl,rfl,fun k hk=>?_,.inl ⟨h0,eP.symm,rfl⟩⟩
    ·rw [eB]
     refine mem_freed hm rfl ?_
     show (gO bs j+32) % 18446744073709551616≠p
     unfold gO at hne ⊢
     omega
    ·have:=hwd k hk
     rw [eP] at this
     exact this
 ·-- no room
  have h3:rzE bs p n=3∧rzP bs p n=0∧rzB bs p n=bs:=by
   unfold rzE at h0 ⊢
   unfold rzP rzB
   rw [hf] at h0 ⊢
   dsimp only at h0 ⊢
   rw [if_neg h18] at h0 ⊢
   rw [if_neg h18,if_neg h18]
   by_cases hle:needOf n≤gS bs i
   ·rw [if_pos hle] at h0;exact absurd rfl h0
   ·rw [if_neg hle] at h0 ⊢
    rw [if_neg hle,if_neg hle]
    unfold tkE at h0 ⊢
    unfold tkP
    cases hq:fitM bs n 16 with
    | none=>exact ⟨rfl,rfl,rfl⟩
    | some j=>rw [hq] at h0;exact absurd rfl h0
  have hh:=hw.bad h0
  refine ⟨bs.getD i default,by rw [h3.2.2];exact getB_mem hi,hu,rfl,fun j hj=>?_,.inr ⟨h3.1,h3.2.1,hpay.symm,rfl⟩⟩
  have hj':j<wa:=by rw [← hwa];exact hj
  rw [if_pos hj',← hP j hj',hpay]
  exact hh _ (getB_mem hi) hu _ (by omega) (by omega)
/-- other blocks' words stay -/
theorem rz_others (h:SoundF f E bs L) (hf:fstN (pF p) bs=some i) (hw:RzW bs p n f f') (hx:x∈bs) (hu:x.u=true) (hp:x.off+32≠p) {q:Nat} (h1:x.off+32≤q) (h2:q<x.off+x.s - 8):f' q=f q:=by
 obtain ⟨hi,_,_⟩:=pF_some hf
 have hpay:=h.pay hf
 refine hw.others i hf x ?_ hu q h1 h2
 rw [bs_amid hi] at hx
 rcases List.mem_append.1 hx with h3|h3
 ·exact List.mem_append_left _ h3
 ·rcases List.mem_cons.1 h3 with h4|h4
  ·rw [h4] at hp;exact absurd hpay.symm hp
  ·exact List.mem_append_right _ h4
end
end Go.Proofs.YtcbdbflgfhbikaaGreat
