/-
  Texts of one layer, one behind the other: memory, contracts of the functions, and what follows of them.
  Conditions: as each theorem says.
-/
import Derived.Test.YtcbdbflgfhbikaaGreatLRsb
import Derived.Test.YtcbdbflgfhbikaaGreatResP
import Derived.Test.YtcbdbflgfhbikaaGreatLRsa
set_option linter.unusedVariables false
set_option linter.unusedSimpArgs false
namespace Go.Proofs.YtcbdbflgfhbikaaGreat
open Go.RowKit
set_option maxRecDepth 100000
structure RzW (bs:List Blk) (p n:Nat) (f f':Nat→Nat):Prop where
 bad:rzE bs p n≠0→Held f f' bs
 others:∀ i,fstN (pF p) bs=some i→Held f f' (bs.take i++bs.drop (i+1))
 words:∀ i,fstN (pF p) bs=some i→rzE bs p n=0→∀ j,j<(n+7) / 8→f' (rzP bs p n+8*j)=if j<(gN bs i+7) / 8 then f (p+8*j) else 0
section
variable {f f1 f2 f3:Nat→Nat} {E p i i' n o:Nat} {bs:List Blk} {x:Blk} {L L1:Nat→List Nat}
theorem mem_taken (hx:x∈bs) (hu:x.u=true):x∈tkB bs o n 16:=by
 unfold tkB
 cases hq:fitM bs n 16 with
 | none=>exact hx
 | some j =>
  obtain ⟨hj,hju,_,_⟩:=fitM_is hq
  dsimp only
  unfold takeB
  rw [bs_amid hj] at hx
  rcases List.mem_append.1 hx with h1|h1
  ·exact List.mem_append_left _ (List.mem_append_left _ h1)
  ·rcases List.mem_cons.1 h1 with h2|h2
   ·rw [h2,hju] at hu;cases hu
   ·exact List.mem_append_right _ h2
theorem fst_old (h:SoundF f E bs L) (hf:fstN (pF p) bs=some i) (h1:SoundF f1 E (tkB bs o n 16) L1):∃ i',fstN (pF p) (tkB bs o n 16)=some i'∧(tkB bs o n 16).getD i' default=bs.getD i default:=by
 obtain ⟨hi,hu,hp⟩:=pF_some hf
 have hpay:=h.pay hf
 have hm:=mem_taken (o:=o) (n:=n) (getB_mem hi) hu
 have hhi:=(h.told.is _ (getB_mem hi)).hi
 have hlow:=h.low
 cases hq:fstN (pF p) (tkB bs o n 16) with
 | none =>
  obtain ⟨j,hj,e⟩:=List.mem_iff_getElem.1 hm
  have:=fstN_none hq j hj
  rw [List.getD_eq_getElem?_getD,List.getElem?_eq_getElem hj,Option.getD_some,e] at this
  unfold pF at this
  rw [hu,decide_eq_true hp] at this
  cases this
 | some i' =>
  refine ⟨i',rfl,?_⟩
  obtain ⟨hi',_,_⟩:=pF_some hq
  have hpay':=h1.pay hq
  exact h1.told.one (getB_mem hi') hm (by omega)
theorem new_taken (h:SoundF f E bs L) (hf:fstN (pF p) bs=some i) (hq:fitM bs n 16≠none):∃ s,(⟨tkP bs n 16 - 32,s,true,o,n⟩:Blk)∈tkB bs o n 16∧3776+32≤tkP bs n 16∧tkP bs n 16≠p∧tkP bs n 16<4800∧needOf n≤s:=by
 obtain ⟨hi,hu,hp⟩:=pF_some hf
 have hpay:=h.pay hf
 cases hq':fitM bs n 16 with
 | none=>exact absurd hq' hq
 | some j =>
  obtain ⟨hj,hju,hjn,_⟩:=fitM_is hq'
  have hbj:=h.told.is _ (getB_mem hj)
  have hbi:=h.told.is _ (getB_mem hi)
  have hpd:=pad16 (off:=gO bs j) hbj.al
  have h2:=hbj.hi
  have h3:=hbj.lo
  have h4:=hbj.size
  have h5:=h.low
  have h6:=hbi.hi
  have eP:tkP bs n 16=(bs.getD j default).off+32:=by
   unfold tkP
   rw [hq']
   dsimp only
   rw [hpd,Nat.add_zero]
   rfl
  have hne:(bs.getD j default).off≠(bs.getD i default).off:=fun e=>by
   have:=h.told.one (getB_mem hj) (getB_mem hi) e
   rw [this,hu] at hju
   cases hju
  rw [eP]
  refine ⟨if (bs.getD j default).s - 0 - needOf n<48 then (bs.getD j default).s - 0 else needOf n,?_,by omega,by omega,by omega,?_⟩
  ·unfold tkB
   rw [hq']
   dsimp only
   rw [hpd]
   unfold takeB cutB
   rw [if_pos rfl,show (bs.getD j default).off+32 - 32=(bs.getD j default).off+0 by omega]
   exact List.mem_append_left _ (List.mem_append_right _ (List.mem_append_right _ List.mem_cons_self))
  ·split <;> omega
theorem fin_out (h:SoundF f E bs L) (hf:fstN (pF p) bs=some i) (h18:¬ 18446744073709551560<n) (hle:¬ needOf n≤gS bs i) (hq:fitM bs n 16≠none)
  (h1:SoundF f1 E (tkB bs o n 16) L1) (d1:Held f f1 bs) (z1:∀ j,j<(n+7) / 8→f1 (tkP bs n 16+8*j)=0)
  (c1:∀ x,(x<tkP bs n 16∨tkP bs n 16+8*((gN bs i+7) / 8)≤x)→f2 x=f1 x) (c2:∀ j,j<(gN bs i+7) / 8→f2 (tkP bs n 16+8*j)=f1 (p+8*j))
  (hf':fstN (pF p) (tkB bs o n 16)=some i') (d3:Held f2 f3 ((tkB bs o n 16).take i'++(tkB bs o n 16).drop (i'+1))):RzW bs p n f f3:=by
 obtain ⟨hi,hu,hp⟩:=pF_some hf
 have hpay:=h.pay hf
 have hbi:=h.told.is _ (getB_mem hi)
 have hlen:=hbi.len
 rw [if_pos hu] at hlen
 have hsz:=hbi.size
 obtain ⟨s,hm,g1,g2,g3,g4⟩:=new_taken (o:=o) h hf hq
 have hnb:=need_bounds n
 have hnew:=h1.told.is _ hm
 have hne0:=hnew.size
 have hnhi:=hnew.hi
 simp only at hne0 hnhi
 obtain ⟨i2,e2,e3⟩:=fst_old (o:=o) (n:=n) h hf h1
 have e4:i2=i':=Option.some.inj (e2.symm.trans hf')
 subst e4
 obtain ⟨hi2,hu2,_⟩:=pF_some hf'
 have hin:∀ y∈tkB bs o n 16,y.off≠(bs.getD i default).off→y∈(tkB bs o n 16).take i2++(tkB bs o n 16).drop (i2+1):=fun y hy hn=>by
  rw [bs_amid hi2] at hy
  rcases List.mem_append.1 hy with k|k
  ·exact List.mem_append_left _ k
  ·rcases List.mem_cons.1 k with k2|k2
   ·rw [k2,e3] at hn;exact absurd rfl hn
   ·exact List.mem_append_right _ k2
 have hE:rzE bs p n=0:=by
  unfold rzE
  rw [hf]
  dsimp only
  rw [if_neg h18,if_neg hle]
  unfold tkE
  cases hq':fitM bs n 16 with
  | none=>exact absurd hq' hq
  | some _=>rfl
 have hP:rzP bs p n=tkP bs n 16:=by
  unfold rzP
  rw [hf]
  dsimp only
  rw [if_neg h18,if_neg hle]
 have hna:gN bs i=(bs.getD i default).n:=rfl
 have hns:gS bs i=(bs.getD i default).s:=rfl
 have hnn:needOf n≤n+55:=hnb.2.2.2
 refine ⟨fun k=>absurd hE k,fun j hj=>?_,fun j hj _ k hk=>?_⟩
 ·obtain rfl:i=j:=Option.some.inj (hf.symm.trans hj)
  intro x hx hxu q q1 q2
  have hxb:x∈bs:=by
   rcases List.mem_append.1 hx with k|k
   ·exact List.mem_of_mem_take k
   ·exact List.mem_of_mem_drop k
  have hxt:=mem_taken (o:=o) (n:=n) hxb hxu
  have hxi:=h.told.is x hxb
  have hxs:=hxi.size
  have hxo:x.off≠(bs.getD i default).off:=fun e=>by
   have hap:=h.told.apart
   rw [bs_amid hi] at hap
   have hsb:=List.pairwise_append.1 hap
   rcases List.mem_append.1 hx with k|k
   ·have:=hsb.2.2 x k _ List.mem_cons_self
    omega
   ·have:=(List.pairwise_cons.1 hsb.2.1).1 x k
    omega
  have hxn:x.off≠tkP bs n 16 - 32:=fun e=>by
   have:=h1.told.one hxt hm e
   have h9:=mem_taken (o:=o) (n:=n) hxb hxu
   cases hq':fitM bs n 16 with
   | none=>exact absurd hq' hq
   | some j =>
    obtain ⟨hj2,hju,_,_⟩:=fitM_is hq'
    have hbj:=h.told.is _ (getB_mem hj2)
    have eP:tkP bs n 16=(bs.getD j default).off+32:=by
     unfold tkP
     rw [hq']
     dsimp only
     rw [pad16 (off:=gO bs j) hbj.al,Nat.add_zero]
     rfl
    have:=h.told.one hxb (getB_mem hj2) (by omega)
    rw [this,hju] at hxu
    cases hxu
  have hsep:=h1.told.sep hxt hm hxn
  simp only at hsep
  rw [d3 x (hin x hxt hxo) hxu q q1 q2,c1 q (by omega)]
  exact d1 x hxb hxu q q1 q2
 ·obtain rfl:i=j:=Option.some.inj (hf.symm.trans hj)
  rw [hP]
  have hk2:=d3 _ (hin _ hm (by show tkP bs n 16 - 32≠_;omega)) rfl (tkP bs n 16+8*k) (by show tkP bs n 16 - 32+32≤_;omega) (by show tkP bs n 16+8*k<tkP bs n 16 - 32+s - 8;omega)
  rw [hk2]
  by_cases hka:k<(gN bs i+7) / 8
  ·rw [if_pos hka,c2 k hka,hpay]
   exact d1 _ (getB_mem hi) hu _ (by omega) (by omega)
  ·rw [if_neg hka,c1 _ (by omega)]
   exact z1 k hk
theorem fin_in (h:SoundF f E bs L) (hf:fstN (pF p) bs=some i) (h18:¬ 18446744073709551560<n) (hle:needOf n≤gS bs i)
  (c1:∀ x,x≠gO bs i+8→(x<p∨p+8*((n+7) / 8)≤x)→f1 x=f x) (c2:∀ j,j<(n+7) / 8→f1 (p+8*j)=if j<(gN bs i+7) / 8 then f (p+8*j) else 0)
  (d3:Held f1 f3 ((lenB bs i n).take i++(lenB bs i n).drop (i+1))) (k3:∀ x,gO (lenB bs i n) i+8≤x→x<gO (lenB bs i n) i+needOf n - 8→f3 x=f1 x):RzW bs p n f f3:=by
 obtain ⟨hi,hu,hp⟩:=pF_some hf
 have hpay:=h.pay hf
 have hbi:=h.told.is _ (getB_mem hi)
 have hsz:=hbi.size
 have hnb:=need_bounds n
 have hti:(bs.take i).length=i:=by rw [List.length_take];omega
 have hE:rzE bs p n=0:=by unfold rzE;rw [hf];dsimp only;rw [if_neg h18,if_pos hle]
 have hP:rzP bs p n=p:=by unfold rzP;rw [hf];dsimp only;rw [if_neg h18,if_pos hle]
 have e1:(lenB bs i n).take i=bs.take i:=by
  unfold lenB
  rw [List.take_append_of_le_length (by omega),List.take_take,Nat.min_self]
 have e2:(lenB bs i n).drop (i+1)=bs.drop (i+1):=by
  unfold lenB
  have:i+1=(bs.take i).length+1:=by omega
  rw [this,← List.drop_drop,List.drop_left]
  rw [hti]
  rfl
 have e3:gO (lenB bs i n) i=gO bs i:=by
  unfold lenB
  show ((bs.take i++_).getD i default).off=_
  rw [List.getD_eq_getElem?_getD,List.getElem?_append_right (by omega),hti,Nat.sub_self]
  rfl
 rw [e1,e2] at d3
 rw [e3] at k3
 have hgo:gO bs i=(bs.getD i default).off:=rfl
 have hgs:gS bs i=(bs.getD i default).s:=rfl
 refine ⟨fun k=>absurd hE k,fun j hj=>?_,fun j hj _ k hk=>?_⟩
 ·obtain rfl:i=j:=Option.some.inj (hf.symm.trans hj)
  intro x hx hxu q q1 q2
  have hxb:x∈bs:=by
   rcases List.mem_append.1 hx with k|k
   ·exact List.mem_of_mem_take k
   ·exact List.mem_of_mem_drop k
  have hap:=h.told.apart
  rw [bs_amid hi] at hap
  have hsb:=List.pairwise_append.1 hap
  have hsep:x.off+x.s≤(bs.getD i default).off∨(bs.getD i default).off+(bs.getD i default).s≤x.off:=by
   rcases List.mem_append.1 hx with k|k
   ·exact .inl (hsb.2.2 x k _ List.mem_cons_self)
   ·exact .inr ((List.pairwise_cons.1 hsb.2.1).1 x k)
  have hxs:=(h.told.is x hxb).size
  rw [d3 x hx hxu q q1 q2,c1 q (by omega) (by omega)]
 ·obtain rfl:i=j:=Option.some.inj (hf.symm.trans hj)
  rw [hP,k3 _ (by omega) (by omega),c2 k hk]
def grE (E n:Nat):Nat:=if n % 16≠0∨n<48 then 1 else if 4800<E+n then 3 else 0
def grB (bs:List Blk) (E n:Nat):List Blk:=lftA bs++[freeB (lowA bs E) (addA bs+n)]
theorem grow_held {g:Nat→Nat} (h:SoundF f E bs L) (hS:∀ x,(x<lowA bs E∨E+n≤x)→x≠16→x≠40→x≠32→(∀ y∈freesB (lftA bs),x≠y+8∧x≠y+16)→g x=f x):Held f g bs:=fun b hb hu x h1 h2=>by
 obtain ⟨t1,t2,t3,t4,t5,t6⟩:=grow_low h
 have hin:b∈lftA bs:=by
  rcases left_cases bs E with ⟨e1,_⟩|⟨X,q,e0,hq,e1,_⟩
  ·rw [e1];exact hb
  ·rw [e1]
   rw [e0] at hb
   rcases List.mem_append.1 hb with k|k
   ·exact k
   ·rw [List.mem_singleton.1 k,hq] at hu;cases hu
 have hw:=t1.within b hin
 refine hS x (by omega) (by omega) (by omega) (by omega) fun y hy=>?_
 have hy':y∈freesB bs:=by
  obtain ⟨c,hc,hcu,rfl⟩:=freesB_mem.1 hy
  refine freesB_mem.2 ⟨c,?_,hcu,rfl⟩
  rcases left_cases bs E with ⟨e1,_⟩|⟨X,q,e0,hq,e1,_⟩
  ·rw [e1] at hc;exact hc
  ·rw [e1] at hc;rw [e0];exact List.mem_append_left _ hc
 have hbs:=(h.told.is b hb).size
 rcases h.told.free_far hb hy' with k|k
 ·rw [hu] at k;exact absurd k.2 (by decide)
 ·omega
end
end Go.Proofs.YtcbdbflgfhbikaaGreat
namespace Go.Proofs.YtcbdbflgfhbikaaGreat
open Go.ChangeShapes Go.WideShapes Go.ChangeAt Go.RowKit
set_option maxRecDepth 100000
def DoneE12 (E:Nat) (w:World) (bs:List Blk) (L:Nat→List Nat) (e:Ending) (w':World):Prop :=
 ∃ (T:Nat) (R la:_) (n c:Nat) (va:Nat→Option Addr) (ln vc:Nat→Nat),e=.returned (.tuple #[.pointer (some ⟨T,0,none⟩),.agg (hC E la n c va ln vc),.bool true])∧HW w w' T R (fmt48 4480) E bs L∧HvK w' R w.heap.size (.agg (hC E la n c va ln vc)) E bs L∧bs.length=n
theorem plays12 {w:World} {la:Option Addr} {n c:Nat} {X O A N:Nat→Nat} (hp:DoneAt w la n X O A N) (hn:n≤maxLen) :
  ∃ E bs L,4480=E∧∀ V,w.grownBy V none→Calls Tryz.prog 9 #[.slice la n c] V (DoneE12 E V bs L):=by
 refine ⟨4480,(dS12 X O A N (min n 25)).1,(dS12 X O A N (min n 25)).2,rfl,fun V hg=>(played12_any (c:=c) (hp.later hg) hn).mono ?_⟩
 rintro e w' ⟨T,R,v,rfl,H,K⟩
 obtain ⟨l1,n1,c1,va,ln,vc,rfl,hn1⟩:=K.lie
 exact ⟨T,R,l1,n1,c1,va,ln,vc,rfl,H,K,hn1⟩
theorem hw_there {w0 w:World} {T:Nat} {R:Option Nat} {ws:List Nat} {E:Nat} {bs:List Blk} {L:Nat→List Nat} {a:Nat} (h:HW w0 w T R ws E bs L) (hu:usedB bs≠[]) (hf:fstN (pF (payB bs a)) bs=none):False:=by
 obtain ⟨_,_,_,_,_,_,hs⟩:=h
 obtain ⟨j,hj⟩:=pay_some hs a hu
 rw [hf] at hj
 cases hj
theorem rz_stay {f:Nat→Nat} {E:Nat} {bs:List Blk} {L:Nat→List Nat} {p i n:Nat} (h:SoundF f E bs L) (hf:fstN (pF p) bs=some i) (hn:n≤(bs.getD i default).n) :
  rzE bs p n=0∧rzP bs p n=p∧fstN (pF p) (rzB bs p n)=some i∧∃ s,(rzB bs p n).getD i default=⟨(bs.getD i default).off,s,true,(bs.getD i default).o,n⟩∧needOf n≤s∧s<needOf n+48∧s≤(bs.getD i default).s:=by
 obtain ⟨hi,hu,_⟩:=pF_some hf
 have hbi:=h.told.is _ (getB_mem hi)
 have hl:=hbi.len
 rw [if_pos hu] at hl
 have hsz:=hbi.size
 have hhi:=hbi.hi
 have hlow:=h.low
 have hle:needOf n≤(bs.getD i default).s:=need_le hsz.2 hsz.1 (by omega)
 have hbs:=bs_amid hi
 have hns:n+40≤(bs.getD i default).s:=by omega
 have hti:(bs.take i).length=i:=by rw [List.length_take];omega
 unfold rzE rzP rzB
 rw [hf]
 dsimp only
 have hle2:needOf n≤gS bs i:=hle
 have h18:¬ 18446744073709551560<n:=by omega
 rw [if_neg h18,if_neg h18,if_neg h18,if_pos hle2,if_pos hle2,if_pos hle2]
 refine ⟨rfl,rfl,?_⟩
 unfold lenB gO gS gU gW
 obtain ⟨b,hb⟩:∃ b,bs.getD i default=b:=⟨_,rfl⟩
 obtain ⟨A,hA⟩:∃ A,bs.take i=A:=⟨_,rfl⟩
 obtain ⟨C,hC⟩:∃ C,bs.drop (i+1)=C:=⟨_,rfl⟩
 rw [hb,hA,hC] at hbs
 rw [hb] at hu hns
 rw [hA] at hti
 rw [hb,hA,hC]
 rw [hbs] at h hf
 rw [← hti] at hf ⊢
 obtain ⟨h1,s,h2,h3,h4,h5⟩:=back_find (n:=n) h hf hns
 rw [hu] at h1 h2 ⊢
 exact ⟨h1,s,h2,h3,h4,h5⟩
end Go.Proofs.YtcbdbflgfhbikaaGreat
