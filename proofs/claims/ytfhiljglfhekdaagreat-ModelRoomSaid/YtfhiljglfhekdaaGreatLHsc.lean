/-
  Texts of one layer, one behind the other: memory, contracts of the functions, and what follows of them.
  Conditions: as each theorem says.
-/
import Derived.Test.YtfhiljglfhekdaaGreatLHsb
import Derived.Test.YtfhiljglfhekdaaGreatLKcj
import Derived.Test.YtfhiljglfhekdaaGreatLKci
import Derived.Test.YtfhiljglfhekdaaGreatLKch
import Derived.Test.YtfhiljglfhekdaaGreatLKcg
import Derived.Test.YtfhiljglfhekdaaGreatLKcf
set_option linter.unusedVariables false
set_option linter.unusedSimpArgs false
set_option maxRecDepth 100000
namespace Go.Proofs.YtfhiljglfhekdaaGreat
open Go.RowKit
section
structure Rep (l:List KB) (S:MS):Prop where
 bs:l.map KB.b=S.bs
 d:∀ x∈l,x.b.u=true→x.d=datL S.ds (x.b.off+32)
section
variable {K i p n m a ow N:Nat} {S:MS} {l A C:List KB} {x y:KB}
theorem jnL_used (hy:y∈jnL l) (hu:y.b.u=true):y∈l:=by
 have hk:Ycb (fun j=>l.getD j default) l.length=l:=klist_of rfl fun j _=>rfl
 rw [← hk,← jnK_L] at hy
 rcases jnK_mem _ _ y hy with ⟨j,h1,h2⟩|⟨j,h1,h2,_⟩
 ·rw [h2,List.getD_eq_getElem?_getD,List.getElem?_eq_getElem h1]
  exact List.getElem_mem h1
 ·rw [hu] at h2;cases h2
theorem Rep.named (h:Rep l S) (nm:List (ByteArray × Nat)):Rep l { S with nm:=nm }:=⟨h.bs,h.d⟩
theorem Rep.live (h:Rep l S) (lv:Nat→Bool):Rep l { S with lv:=lv }:=⟨h.bs,h.d⟩
theorem Rep.mem (h:Rep l S) (hx:x∈l):x.b∈S.bs:=by rw [← h.bs];exact List.mem_map_of_mem hx
theorem Rep.sane (hM:HS S.E S.bs S.L) (h:Rep l S):Sane S.E l:=by
 refine ⟨⟨by rw [h.bs];exact hM.q.ch,hM.q.top⟩,fun x hx hu=>(hM.q.is x.b (h.mem hx)).fr hu,fun x hx hu=>((hM.q.is x.b (h.mem hx)).us hu).1⟩
theorem Rep.len (hM:HM K S) (h:Rep l S) (hx:x∈l) (hu:x.b.u=true):x.d.length=(x.b.n+7) / 8∧x.d.length≤600:=by
 have h1:=hM.dl x.b (Yb3.2 ⟨h.mem hx,hu⟩)
 have h2:=(hM.hs.q.is x.b (h.mem hx)).us hu
 have h3:=hM.hs.q.mem (h.mem hx)
 have h4:=hM.hs.q.top
 rw [h.d x hx hu]
 omega
theorem Rep.apart (hM:HS S.E S.bs S.L) (h:Rep (A++y::C) S):∀ x∈A++C,x.b.off≠y.b.off:=by
 have h1:=hM.q.ch
 rw [← h.bs,List.map_append,List.map_cons] at h1
 obtain ⟨h2,h3⟩:=up_amid h1.up
 intro x hx
 rcases List.mem_append.1 hx with r|r
 ·have:=h2 _ (List.mem_map_of_mem r);omega
 ·have:=h3 _ (List.mem_map_of_mem r);omega
theorem Rep.amid (h:Rep (A++y::C) S):S.bs=A.map KB.b++y.b::C.map KB.b:=by rw [← h.bs,List.map_append,List.map_cons]
theorem Rep.freed (hM:HS S.E S.bs S.L) (h:Rep (A++y::C) S) (hi:A.length=i) (hf:fstN (pF p) S.bs=some i):Rep (jnL (A++y.free::C)) (Yed S p):=by
 have he:=h.amid
 have hap:=h.apart hM
 obtain ⟨A',b,C',e',hi',hu,hp,hb⟩:=hM.q.found hf
 have hbb:b=y.b:=by
  rw [← hb,he];exact Ycq (by rw [List.length_map];exact hi)
 subst hbb
 refine ⟨?_,fun x hx hux=>?_⟩
 ·show _=frB S.bs p
  rw [he] at hf ⊢
  rw [(frB_at (L:=S.L) (by rw [List.length_map];exact hi) hf).1,jnL_map,List.map_append,List.map_cons]
  rfl
 ·have hx1:=jnL_used hx hux
  rcases Yba.1 hx1 with r|r
  ·rw [r] at hux;cases hux
  ·show x.d=datL (drpL S.ds p) (x.b.off+32)
   have:=hap x r
   rw [Yc8,if_neg (by omega)]
   exact h.d x (Yba.2 (.inr r)) hux
theorem map_split {f:KB→Blk} {X Y:List Blk} {b:Blk}:∀ {l:List KB},l.map f=X++b::Y→∃ A x C,l=A++x::C∧A.map f=X∧f x=b∧C.map f=Y:=by
 intro l h
 obtain ⟨A,l2,rfl,h1,h2⟩:=List.map_eq_append_iff.1 h
 obtain ⟨x,C,rfl,h3,h4⟩:=List.map_eq_cons_iff.1 h2
 exact ⟨A,x,C,rfl,h1,h3,h4⟩
theorem cutK_map (x:KB) (need:Nat):(cutK x need).map KB.b=(⟨x.b.off,if x.b.s - need<48 then x.b.s else need,x.b.u,x.b.o,x.b.n⟩:Blk)::if x.b.s - need<48 then [] else [Ya4 (x.b.off+need) (x.b.s - need)]:=by
 unfold cutK
 by_cases h:x.b.s - need<48
 ·rw [if_pos h,if_pos h,if_pos h];rfl
 ·rw [if_neg h,if_neg h,if_neg h];rfl
theorem cutK_used {need:Nat} (hy:y∈cutK x need) (hu:y.b.u=true):y.d=x.d∧y.b.off=x.b.off:=by
 unfold cutK at hy
 split at hy
 ·rw [List.mem_singleton.1 hy];exact ⟨rfl,rfl⟩
 ·rcases List.mem_cons.1 hy with r|r
  ·rw [r];exact ⟨rfl,rfl⟩
  ·rw [List.mem_singleton.1 r] at hu;cases hu
theorem pieces_map (x:KB) (pad need ow m N:Nat):(pieces x pad need ow m N).map KB.b=cutB x.b pad need ow m:=by
 unfold pieces cutB
 rw [List.map_append,cutK_map]
 congr 1
 by_cases h:pad=0
 ·rw [if_pos h,if_pos h];rfl
 ·rw [if_neg h,if_neg h];rfl
theorem tkR_at (hM:HS S.E S.bs S.L) (h:Rep l S) (hf:Yax S.bs m a=0):∃ A x C,l=A++x::C∧x.b.u=false∧(∀ ow N,tkR l ow m a N=A++pieces x (padN x.b.off a) (Yat m) ow m N++C)∧tkP S.bs m a=x.b.off+padN x.b.off a+32∧(∀ ow,tkB S.bs ow m a=A.map KB.b++cutB x.b (padN x.b.off a) (Yat m) ow m++C.map KB.b):=by
 obtain ⟨A0,b,C0,e,hfi,hu,hb,p1,p2,p3,hm,e1,e2,e3,e4⟩:=take_at hM hf
 obtain ⟨A,x,C,rfl,rfl,rfl,rfl⟩:=map_split (h.bs.trans e)
 refine ⟨A,x,C,rfl,hu,fun ow N=>?_,e3,e1⟩
 have hl:(A++x::C).map KB.b=S.bs:=h.bs
 unfold tkR tkK
 rw [hl,if_pos hf,hfi]
 simp only
 rw [List.length_map] at hb ⊢
 unfold gO
 rw [hb,Ycq rfl,List.take_left,show A++x::C=(A++[x])++C by simp,show A.length+1=(A++[x]).length by simp,List.drop_left]
theorem Rep.take (hM:HS S.E S.bs S.L) (h:Rep l S) (ho:ow≤8) (N:Nat):Rep (tkR l ow m a N) (mTk S ow m a):=by
 by_cases hf:Yax S.bs m a=0
 ·obtain ⟨A,x,C,rfl,hu,e1,e2,e3⟩:=tkR_at hM h hf
  obtain ⟨k1,s,k2,k3,k4,U,V,k5,k6,k7⟩:=hM.take hf ho
  rw [Yek hf,e1]
  refine ⟨?_,fun z hz huz=>?_⟩
  ·show _=tkB S.bs ow m a
   rw [e3,List.map_append,List.map_append,pieces_map]
  ·show z.d=datL (putL S.ds (tkP S.bs m a) (sizN [] ((m+7) / 8))) (z.b.off+32)
   have hold:z∈A∨z∈C→z.d=datL (putL S.ds (tkP S.bs m a) (sizN [] ((m+7) / 8))) (z.b.off+32):=fun hz=>by
    have hz2:z∈A++x::C:=by rcases hz with r|r <;> simp [r]
    have h1:=k7 z.b (by rw [← k5];exact Yb3.2 ⟨h.mem hz2,huz⟩)
    rw [Ycr,if_neg (by omega)]
    exact h.d z hz2 huz
   rcases List.mem_append.1 hz with r|r
   ·rcases List.mem_append.1 r with r|r
    ·exact hold (.inl r)
    ·unfold pieces at r
     rcases List.mem_append.1 r with r|r
     ·by_cases hp:padN x.b.off a=0
      ·rw [if_pos hp] at r;cases r
      ·rw [if_neg hp] at r;rw [List.mem_singleton.1 r] at huz;cases huz
     ·obtain ⟨g1,g2⟩:=cutK_used r huz
      rw [g1,g2,Ycr]
      show _=if x.b.off+padN x.b.off a+32=tkP S.bs m a then _ else _
      rw [if_pos e2.symm]
      rfl
   ·exact hold (.inr r)
 ·rw [mTk_no hf]
  unfold tkR
  rw [h.bs,if_neg hf]
  exact h
theorem Rep.resized_in (hM:HS S.E S.bs S.L) (h:Rep (A++y::C) S) (hu:y.b.u=true) (hp:y.b.off+32=p) (h18:n≤18446744073709551560) (hle:Yat n≤y.b.s):Rep (jnL (A++cutK (y.filled n (some ⟨N,0,none⟩)) (Yat n)++C)) (rzM S p n):=by
 have he:=h.amid
 have hap:=h.apart hM
 have hM':=hM
 rw [he] at hM'
 subst hp
 obtain ⟨e1,e2,e3,e4⟩:=rzB_in (n:=n) hM' hu h18 hle
 have hn4:=need_48 n
 have hre:=hM'.relen hu (n:=n) (by omega)
 refine ⟨?_,fun z hz huz=>?_⟩
 ·show _=rzB S.bs (y.b.off+32) n
  rw [he,e1,jnL_map,List.map_append,List.map_append,cutK_map]
  show Ybs (A.map KB.b++((⟨y.b.off,if y.b.s - Yat n<48 then y.b.s else Yat n,y.b.u,y.b.o,n⟩:Blk)::if y.b.s - Yat n<48 then [] else [Ya4 (y.b.off+Yat n) (y.b.s - Yat n)])++C.map KB.b)=_
  have hf:=hre.q.find (by exact hu)
  have e:=Ycq (C:=C.map KB.b) (x:=(⟨y.b.off,y.b.s,y.b.u,y.b.o,n⟩:Blk)) (rfl:(A.map KB.b).length=(A.map KB.b).length)
  unfold ctB gO gS gU gW gN
  rw [show (⟨y.b.off,y.b.s,y.b.u,y.b.o,n⟩:Blk).off+32=y.b.off+32 from rfl] at hf
  rw [hf]
  simp only
  rw [e]
  by_cases hc:y.b.s - Yat n<48
  ·rw [if_pos hc,if_pos hc,if_neg (fun k=>by have h9:Yat n+48≤y.b.s:=k.2;omega)]
   rw [List.append_assoc]
   exact Ydq hre.mg
  ·rw [if_neg hc,if_neg hc,if_pos ⟨⟨hn4.1,Nat.le_refl _,hle⟩,by show Yat n+48≤y.b.s;omega⟩,List.take_left]
   rw [show A.map KB.b++(⟨y.b.off,y.b.s,y.b.u,y.b.o,n⟩:Blk)::C.map KB.b=(A.map KB.b++[(⟨y.b.off,y.b.s,y.b.u,y.b.o,n⟩:Blk)])++C.map KB.b by simp,show (A.map KB.b).length+1=(A.map KB.b++[(⟨y.b.off,y.b.s,y.b.u,y.b.o,n⟩:Blk)]).length by simp,List.drop_left]
   simp
 ·have hz1:=jnL_used hz huz
  show z.d=datL (putL (drpL S.ds (y.b.off+32)) (rzP S.bs (y.b.off+32) n) (sizN (datL S.ds (y.b.off+32)) ((n+7) / 8))) (z.b.off+32)
  rw [he,e3,Ycr]
  have hold:z∈A∨z∈C→z.d=(if z.b.off+32=y.b.off+32 then sizN (datL S.ds (y.b.off+32)) ((n+7) / 8) else datL (drpL S.ds (y.b.off+32)) (z.b.off+32)):=fun hz=>by
   have h1:=hap z (by rcases hz with r|r <;> simp [r])
   rw [if_neg (by omega),Yc8,if_neg (by omega)]
   exact h.d z (by rcases hz with r|r <;> simp [r]) huz
  rcases List.mem_append.1 hz1 with r|r
  ·rcases List.mem_append.1 r with r|r
   ·exact hold (.inl r)
   ·obtain ⟨g1,g2⟩:=cutK_used r huz
    rw [g1,g2]
    show _=if y.b.off+32=y.b.off+32 then _ else _
    rw [if_pos rfl,← h.d y (by simp) hu]
    rfl
  ·exact hold (.inr r)
theorem Rep.places (hM:HS S.E S.bs S.L) (h:Rep (A++y::C) S) (hu:y.b.u=true) (hf:Yax S.bs n 16=0) (ho:ow≤8):∃ i1 i2,(∀ N,Lay S.E (tkR (A++y::C) ow n 16 N))∧(∀ N,fstN (pF (mtP S.bs n 16)) ((tkR (A++y::C) ow n 16 N).map KB.b)=some i1)∧(∀ N,fstN (pF (y.b.off+32)) ((tkR (A++y::C) ow n 16 N).map KB.b)=some i2) ∧
  (∀ N,((tkR (A++y::C) ow n 16 N).getD i1 default).a=some ⟨N,0,none⟩)∧(∀ N,(tkR (A++y::C) ow n 16 N).getD i2 default=y) ∧
  ∀ N,∃ X z Y,tkR (A++y::C) ow n 16 N=X++z::Y∧X.length=i1∧z.b.u=true∧z.b.off+32=tkP S.bs n 16∧z.d=sizN [] ((n+7) / 8)∧z≠y:=by
 obtain ⟨k1,s,k2,k3,k4,U,V,k5,k6,k7⟩:=hM.take hf ho
 have hR:∀ N,Rep (tkR (A++y::C) ow n 16 N) (mTk S ow n 16):=fun N=>h.take hM ho N
 have hB:∀ N,(tkR (A++y::C) ow n 16 N).map KB.b=tkB S.bs ow n 16:=fun N=>by
  rw [(hR N).bs,Yek hf]
 obtain ⟨A1,x1,C1,e0,hu1,e1,e2,e3⟩:=tkR_at hM h hf
 have hx1:=hM.q.mem (h.mem (x:=x1) (by rw [e0];simp))
 have hpad:padN x1.b.off 16=0:=by unfold padN;rw [if_pos (by omega)]
 have hnew:∀ N,∃ z Y,tkR (A++y::C) ow n 16 N=A1++z::Y∧z.b.u=true∧z.b.off+32=tkP S.bs n 16∧z.d=sizN [] ((n+7) / 8)∧z.a=some ⟨N,0,none⟩:=fun N=>by
  rw [e1,e2,hpad]
  unfold pieces cutK
  rw [if_pos rfl]
  split
  ·refine ⟨((Ya9 (x1.b.off+0) (x1.b.s - 0)).marked ow).filled n (some ⟨N,0,none⟩),C1,?_,rfl,rfl,rfl,rfl⟩
   rw [List.nil_append,List.append_assoc];rfl
  ·refine ⟨(((Ya9 (x1.b.off+0) (x1.b.s - 0)).marked ow).filled n (some ⟨N,0,none⟩)).sized (Yat n),Ya9 ((((Ya9 (x1.b.off+0) (x1.b.s - 0)).marked ow).filled n (some ⟨N,0,none⟩)).b.off+Yat n) ((((Ya9 (x1.b.off+0) (x1.b.s - 0)).marked ow).filled n (some ⟨N,0,none⟩)).b.s - Yat n)::C1,?_,rfl,rfl,rfl,rfl⟩
   rw [List.nil_append,List.append_assoc];rfl
 have hyU:y.b∈usL (tkB S.bs ow n 16):=by
  rw [k6]
  exact Yba.2 (.inr (by rw [← k5];exact Yb3.2 ⟨h.mem (by simp),hu⟩))
 obtain ⟨A2,C2,e5,_⟩:=us_split hyU
 have hf2:fstN (pF (y.b.off+32)) (tkB S.bs ow n 16)=some A2.length:=by
  have:=k1.q
  rw [e5] at this ⊢
  exact this.find hu
 have hyin:∀ N,y∈tkR (A++y::C) ow n 16 N:=fun N=>by
  rw [e1]
  have:y∈A1++x1::C1:=by rw [← e0];simp
  rcases Yba.1 this with r|r
  ·rw [r,hu1] at hu;cases hu
  ·rcases List.mem_append.1 r with r|r <;> simp [r]
 refine ⟨A1.length,A2.length,fun N=>⟨by rw [hB];exact k1.q.ch,k1.q.top⟩,fun N=>?_,fun N=>by rw [hB];exact hf2,fun N=>?_,fun N=>?_,fun N=>?_⟩
 ·obtain ⟨z,Y,q1,q2,q3,q4,q5⟩:=hnew N
  have h1:=k1.q
  rw [← hB N,q1,List.map_append,List.map_cons] at h1
  have h2:=h1.find q2
  rw [q1,List.map_append,List.map_cons,k2,← q3,h2,List.length_map]
 ·obtain ⟨z,Y,q1,q2,q3,q4,q5⟩:=hnew N
  rw [q1,Ycq rfl];exact q5
 ·obtain ⟨X,Y,q1⟩:=List.append_of_mem (hyin N)
  have h1:=k1.q
  rw [← hB N,q1,List.map_append,List.map_cons] at h1
  have h2:=h1.find hu
  have h3:=hf2
  rw [← hB N,q1,List.map_append,List.map_cons,h2,List.length_map] at h3
  rw [q1,← Option.some.inj h3,Ycq rfl]
 ·obtain ⟨z,Y,q1,q2,q3,q4,q5⟩:=hnew N
  refine ⟨A1,z,Y,q1,rfl,q2,q3,q4,fun e=>?_⟩
  have:=k7 y.b (by rw [← k5];exact Yb3.2 ⟨h.mem (by simp),hu⟩)
  rw [e] at q3
  omega
theorem siz_ov (d:List Nat) (k:Nat):ovL (sizN [] k) d=sizN d k:=by
 unfold ovL sizN
 rw [List.length_map,List.length_range]
 apply List.map_congr_left
 intro j hj
 have hj:=List.mem_range.1 hj
 split
 ·rfl
 ·rename_i h
  rw [List.getD_eq_getElem?_getD,List.getD_eq_getElem?_getD,List.getElem?_map,List.getElem?_range hj,List.getElem?_eq_none (l:=d) (by omega)];rfl
theorem Rep.resized_out (hM:HS S.E S.bs S.L) (h:Rep (A++y::C) S) (hu:y.b.u=true) (ho:y.b.o=(ow:Int)) (h8:ow≤8) (hp:y.b.off+32=p) (h18:n≤18446744073709551560) (hgt:y.b.s<Yat n) (hf:Yax S.bs n 16=0) {i1 i2:Nat}
  (h1:fstN (pF (mtP S.bs n 16)) ((tkR (A++y::C) ow n 16 N).map KB.b)=some i1) (h2:fstN (pF (y.b.off+32)) ((tkR (A++y::C) ow n 16 N).map KB.b)=some i2) (hz2:(tkR (A++y::C) ow n 16 N).getD i2 default=y)
  (hX:∃ X z Y,tkR (A++y::C) ow n 16 N=X++z::Y∧X.length=i1∧z.b.u=true∧z.b.off+32=tkP S.bs n 16∧z.d=sizN [] ((n+7) / 8)∧z≠y):Rep (mvK (tkR (A++y::C) ow n 16 N) i1 i2 y.d) (rzM S p n):=by
 have he:=h.amid
 have hM':=hM
 rw [he] at hM'
 subst hp
 obtain ⟨e1,e2,e3,e4⟩:=rzB_out (n:=n) hM' hu h18 hgt
 rw [← he,if_pos hf] at e1 e2
 rw [← he] at e3 e4
 have hto:y.b.o.toNat=ow:=by omega
 rw [hto] at e1 e2
 obtain ⟨k1,s,k2,k3,k4,U,V,k5,k6,k7⟩:=hM.take hf h8
 have hR:=h.take hM h8 N (m:=n) (a:=16)
 rw [Yek hf] at hR
 obtain ⟨X,z,Y,q1,q2,q3,q4,q5,q6⟩:=hX
 have hcp:cpK (tkR (A++y::C) ow n 16 N) i1 y.d=X++z.dataed (sizN y.d ((n+7) / 8))::Y:=by
  unfold cpK
  rw [q1,Ycq q2,← q2,List.take_left,show X++z::Y=(X++[z])++Y by simp,show X.length+1=(X++[z]).length by simp,List.drop_left,q5,siz_ov]
 have hap7:y.b.off≠tkP S.bs n 16 - 32:=k7 y.b (by rw [← k5];exact Yb3.2 ⟨h.mem (by simp),hu⟩)
 have hR2:Rep (X++z.dataed (sizN y.d ((n+7) / 8))::Y) { S with bs:=tkB S.bs ow n 16,L:=tkL S.bs S.L ow n 16,ds:=putL S.ds (tkP S.bs n 16) (sizN y.d ((n+7) / 8)) }:=by
  rw [q1] at hR
  have hap:∀ x∈X++Y,x.b.off≠z.b.off:=hR.apart k1
  refine ⟨?_,fun t ht hut=>?_⟩
  ·have:=hR.bs
   rw [List.map_append,List.map_cons] at this ⊢
   exact this
  ·show t.d=datL (putL S.ds (tkP S.bs n 16) (sizN y.d ((n+7) / 8))) (t.b.off+32)
   rcases Yba.1 ht with r|r
   ·rw [r,Ycr]
    show sizN y.d ((n+7) / 8)=if z.b.off+32=tkP S.bs n 16 then _ else _
    rw [if_pos q4]
   ·have h3:=hap t r
    have h4:=hR.d t (Yba.2 (.inr r)) hut
    replace h4:t.d=datL (putL S.ds (tkP S.bs n 16) (sizN [] ((n+7) / 8))) (t.b.off+32):=h4
    rw [Ycr,if_neg (by omega)] at h4 ⊢
    exact h4
 have hbs2:(X++z.dataed (sizN y.d ((n+7) / 8))::Y).map KB.b=(tkR (A++y::C) ow n 16 N).map KB.b:=by
  rw [q1,List.map_append,List.map_append,List.map_cons,List.map_cons];rfl
 have hyin:y∈X++Y:=by
  have hi2:=pF_some h2
  have h3:y∈tkR (A++y::C) ow n 16 N:=by
   have hlt:i2<(tkR (A++y::C) ow n 16 N).length:=by have:=hi2.1;rwa [List.length_map] at this
   have:(tkR (A++y::C) ow n 16 N).getD i2 default∈tkR (A++y::C) ow n 16 N:=by
    rw [List.getD_eq_getElem?_getD,List.getElem?_eq_getElem hlt];exact List.getElem_mem hlt
   rwa [hz2] at this
  rw [q1] at h3
  rcases Yba.1 h3 with r|r
  ·exact absurd r.symm q6
  ·exact r
 obtain ⟨P,Q,e5⟩:=List.append_of_mem (Yba.2 (.inr hyin):y∈X++z.dataed (sizN y.d ((n+7) / 8))::Y)
 rw [e5] at hR2 hbs2 hcp
 have hPl:P.length=i2:=by
  have h3:=h2
  rw [← hbs2,List.map_append,List.map_cons] at h3
  have h4:=k1.q
  have h5:=hR2.amid
  replace h5:tkB S.bs ow n 16=P.map KB.b++y.b::Q.map KB.b:=h5
  rw [h5] at h4
  have h6:=h4.find hu
  rw [h6,List.length_map] at h3
  exact Option.some.inj h3
 have hfin:=hR2.freed (p:=y.b.off+32) (i:=i2) k1 hPl (by
  show fstN (pF (y.b.off+32)) (tkB S.bs ow n 16)=some i2
  rw [← h2,hR.bs])
 have hmv:mvK (tkR (A++y::C) ow n 16 N) i1 i2 y.d=jnL (P++y.free::Q):=by
  unfold mvK
  rw [hcp,Ycq hPl,← hPl,List.take_left,show P++y::Q=(P++[y])++Q by simp,show P.length+1=(P++[y]).length by simp,List.drop_left]
 rw [hmv]
 refine ⟨?_,fun t ht hut=>?_⟩
 ·have:=hfin.bs
  show _=rzB S.bs (y.b.off+32) n
  rw [e1];exact this
 ·have h3:=hfin.d t ht hut
  replace h3:t.d=datL (drpL (putL S.ds (tkP S.bs n 16) (sizN y.d ((n+7) / 8))) (y.b.off+32)) (t.b.off+32):=h3
  show t.d=datL (putL (drpL S.ds (y.b.off+32)) (rzP S.bs (y.b.off+32) n) (sizN (datL S.ds (y.b.off+32)) ((n+7) / 8))) (t.b.off+32)
  rw [h3,e3,← h.d y (by simp) hu,Yc8,Ycr,Ycr,Yc8]
  by_cases g1:t.b.off+32=y.b.off+32
  ·rw [if_pos g1,if_pos g1,if_neg (by omega)]
  ·rw [if_neg g1,if_neg g1]
theorem Rep.grown (h:Rep l S) (n:Nat):Rep (jnL (l++[Ya9 S.E n])) { S with E:=S.E+n,bs:=grJ S.bs S.E n }:=by
 refine ⟨?_,fun z hz huz=>?_⟩
 ·show _=grJ S.bs S.E n
  unfold grJ
  rw [jnL_map,List.map_append,h.bs];rfl
 ·have hz1:=jnL_used hz huz
  rcases List.mem_append.1 hz1 with r|r
  ·exact h.d z r huz
  ·rw [List.mem_singleton.1 r] at huz;cases huz
theorem Rep.owned (h:Rep (A++y::C) S) (hi:A.length=i) (hu:y.b.u=true) (who:Nat):Rep (A++y.own (who:Int)::C) (mOwn S i who):=by
 have he:=h.amid
 refine ⟨?_,fun z hz huz=>?_⟩
 ·show _=ownA S.bs i who
  rw [he,(ownA_at (L:=S.L) (by rw [List.length_map];exact hi) y.b (C.map KB.b) who).1,List.map_append,List.map_cons];rfl
 ·show z.d=datL S.ds (z.b.off+32)
  rcases Yba.1 hz with r|r
  ·rw [r];exact h.d y (by simp) hu
  ·exact h.d z (Yba.2 (.inr r)) huz
theorem Rep.worded (hM:HS S.E S.bs S.L) (h:Rep (A++y::C) S) (hu:y.b.u=true) (hp:y.b.off+32=p) (k v:Nat):Rep (A++y.worded k v::C) { S with ds:=putL S.ds p ((datL S.ds p).set k v) }:=by
 have hap:=h.apart hM
 refine ⟨?_,fun z hz huz=>?_⟩
 ·show _=S.bs
  rw [← h.bs,List.map_append,List.map_append,List.map_cons,List.map_cons];rfl
 ·show z.d=datL (putL S.ds p ((datL S.ds p).set k v)) (z.b.off+32)
  rw [Ycr]
  rcases Yba.1 hz with r|r
  ·rw [r]
   show y.d.set k v=if y.b.off+32=p then _ else _
   rw [if_pos hp,h.d y (by simp) hu,hp]
  ·have:=hap z r
   rw [if_neg (by omega)]
   exact h.d z (Yba.2 (.inr r)) huz
theorem Rep.kill (hM:HS S.E S.bs S.L) (h:Rep l S) {c:Nat} (hc:c<8):Rep (jnL (l.map (Yev c))) (killM S c):=by
 obtain ⟨h1,h2⟩:=hM.q.ls c hc
 have hb:=killL_bs (S.L c) (S:=S) (Z:=S.bs) (Ydq hM.mg).symm hM.q h1 fun x hx=>by
  obtain ⟨b,k1,k2,k3⟩:=(h2 x).1 hx
  exact ⟨b,k1,k2⟩
 have hkey:∀ x∈l,(x.b.o=(c:Int)+1↔x.b.u=true∧x.b.off∈S.L c):=fun x hx=>by
  have hbk:=hM.q.is x.b (h.mem hx)
  constructor
  ·intro ho
   have hu:x.b.u=true:=by
    cases hu:x.b.u with
    | true=>rfl
    | false =>
     have:x.b.o=0:=by rw [hbk.fr hu];rfl
     omega
   exact ⟨hu,(h2 _).2 ⟨x.b,Yb3.2 ⟨h.mem hx,hu⟩,rfl,ho⟩⟩
  ·rintro ⟨hu,hin⟩
   obtain ⟨b,k1,k2,k3⟩:=(h2 _).1 hin
   rw [hM.q.one (h.mem hx) (Yb3.1 k1).1 k2.symm];exact k3
 refine ⟨?_,fun z hz huz=>?_⟩
 ·show _=(killL S (S.L c)).bs
  rw [hb,jnL_map,List.map_map,← h.bs,List.map_map]
  congr 1
  apply List.map_congr_left
  intro x hx
  show (Yev c x).b=markF (S.L c) x.b
  unfold Yev markF
  by_cases ho:x.b.o=(c:Int)+1
  ·rw [if_pos ho,if_pos ((hkey x hx).1 ho)];rfl
  ·rw [if_neg ho,if_neg fun k=>ho ((hkey x hx).2 k)]
 ·have hz1:=jnL_used hz huz
  obtain ⟨x,hx,e⟩:=List.mem_map.1 hz1
  show z.d=datL (killL S (S.L c)).ds (z.b.off+32)
  unfold Yev at e
  by_cases ho:x.b.o=(c:Int)+1
  ·rw [if_pos ho] at e;rw [← e] at huz;cases huz
  ·rw [if_neg ho] at e
   subst e
   rw [killL_ds _ _ _ fun q hq e1=>ho ((hkey x hx).2 ⟨huz,by rw [show x.b.off=q by omega];exact hq⟩)]
   exact h.d x hx huz
end
end
section
theorem mTk_rest (S:MS) (o m a:Nat):(mTk S o m a).nm=S.nm∧(mTk S o m a).lv=S.lv:=by unfold mTk;split <;> exact ⟨rfl,rfl⟩
theorem get_mem {s:ByteArray} {p:Nat}:∀ {ns:List (ByteArray × Nat)},Yb4 ns s=some p→(s,p)∈ns
 | [],h=>by cases h
 | q::r,h=>by
  by_cases hq:q.1=s
  ·rw [show Yb4 (q::r) s=some q.2 from if_pos hq] at h
   rw [← Option.some.inj h,← hq];exact List.mem_cons_self
  ·rw [show Yb4 (q::r) s=Yb4 r s from if_neg hq] at h
   exact List.mem_cons_of_mem _ (get_mem h)
theorem get_at {s:ByteArray} {p:Nat} {C:List (ByteArray × Nat)}:∀ {A:List (ByteArray × Nat)},((A++(s,p)::C).map Prod.fst).Nodup→Yb4 (A++(s,p)::C) s=some p
 | [],_=>if_pos rfl
 | q::r,h=>by
  rw [List.cons_append,List.map_cons,List.nodup_cons] at h
  have hq:q.1≠s:=fun e=>h.1 (by rw [e];simp)
  exact (if_neg hq).trans (get_at h.2)
theorem get_none {s:ByteArray}:∀ {ns:List (ByteArray × Nat)},(∀ q∈ns,q.1≠s)→Yb4 ns s=none
 | [],_=>rfl
 | q::r,h=>(if_neg (h q (by simp))).trans (get_none fun z hz=>h z (by simp [hz]))
theorem del_at {s:ByteArray} {p:Nat} {A C:List (ByteArray × Nat)} (h:((A++(s,p)::C).map Prod.fst).Nodup):nmDel (A++(s,p)::C) s=A++C:=by
 rw [List.map_append,List.map_cons] at h
 obtain ⟨h1,h2,h3⟩:=List.nodup_append.1 h
 have hA:∀ q∈A,q.1≠s:=fun q hq=>h3 _ (List.mem_map_of_mem hq) _ (by simp)
 have hC:∀ q∈C,q.1≠s:=fun q hq e=>(List.nodup_cons.1 h2).1 (List.mem_map.2 ⟨q,hq,e⟩)
 unfold nmDel
 rw [List.filter_append,List.filter_cons,if_neg (by simp),List.filter_eq_self.2 fun q hq=>by simp [hA q hq],List.filter_eq_self.2 fun q hq=>by simp [hC q hq]]
section
variable {w w':World} {F:Nat→Prop} {P all K:Nat} {l:List KB} {S S':MS} {c:Nat} {x:OpM} {e p v:Nat}
theorem Ybh {k fn:Nat} (h:Md w F P all l S.nm S.lv) (hc:c<8) (h1:1≤k) (h2:k≤15) (hk:x.kind=(k:Int)) (hlv:S.lv c=true∨k=15)
  (eg:∀ args w,(callFunc fn args).run Tryz.prog w=.ok (.enter fn args) w) (hix:∀ W,(Instr.index 93 (.agg opsL) (.int .i64 (k:Int))).run Tryz.prog W=.ok (.func (.func fn) #[] #[]) W)
  (hf:∀ V,w.grownBy V none→Md V F P all l S.nm S.lv→Calls Tryz.prog fn #[.pointer (some ⟨P,0,none⟩),.int .i64 c,.agg (opC x)] V fun en w'=>en=.returned (.agg #[.int .i64 (e:Nat),.int .u64 (p:Nat),.int .u64 (v:Nat)])∧∃ l',Rep l' S'∧MdR V w' F P all l' S'.nm S'.lv) :
  Calls Tryz.prog 13 #[.pointer (some ⟨P,0,none⟩),.int .i64 c,.agg (opC x)] w fun en w'=>en=.returned (.agg #[.int .i64 (e:Nat),.int .u64 (p:Nat),.int .u64 (v:Nat)])∧∃ l',Rep l' S'∧MdR w w' F P all l' S'.nm S'.lv:=by
 refine (mdo_at (T:=fun ea eb ec l' ns' lv'=>ea=e∧eb=p∧ec=v∧Rep l' S'∧ns'=S'.nm∧lv'=S'.lv) h hc h1 h2 hk hlv eg hix fun V hg=>?_).mono ?_
 ·refine (hf V hg (h.later hg)).mono ?_
  rintro en w' ⟨h1,l',h2,h3⟩
  exact ⟨e,p,v,l',S'.nm,S'.lv,h1,⟨rfl,rfl,rfl,h2,rfl,rfl⟩,h3⟩
 ·rintro en w' ⟨ea,eb,ec,l',ns',lv',h1,⟨rfl,rfl,rfl,h2,rfl,rfl⟩,h3⟩
  exact ⟨h1,l',h2,h3⟩
theorem rep_at (hM:HM K S) (hR:Rep l S) {i:Nat} (hi:fstN (pF p) S.bs=some i):∃ A y C,l=A++y::C∧A.length=i∧y.b.u=true∧y.b.off+32=p∧gW S.bs i=y.b.o∧S.bs.getD i default=y.b:=by
 obtain ⟨X,b,Y,e1,e2,e3,e4,e5⟩:=hM.hs.q.found hi
 obtain ⟨A,y,C,h1,h2,h3,h4⟩:=map_split (hR.bs.trans e1)
 subst h3
 exact ⟨A,y,C,h1,by rw [← e2,← h2,List.length_map],e3,e4,by unfold gW;rw [e5],e5⟩
set_option maxHeartbeats 4000000 in
theorem mact (h:Md w F P all l S.nm S.lv) (hM:HM K S) (hR:Rep l S) (hc:c<8) (hx:OpOk x) (hall:all≤4800) (hlv:S.lv c=true) (ha:Yb5 all S c x S' e p v) :
  Calls Tryz.prog 13 #[.pointer (some ⟨P,0,none⟩),.int .i64 c,.agg (opC x)] w fun en w'=>en=.returned (.agg #[.int .i64 (e:Nat),.int .u64 (p:Nat),.int .u64 (v:Nat)])∧∃ l',Rep l' S'∧MdR w w' F P all l' S'.nm S'.lv:=by
 have hs:=hR.sane hM.hs
 have hbs:=hR.bs
 have hb1:∀ k:Int,pubK k=false→owL c k=[(c:Int)+1]:=fun k hk=>by unfold owL;rw [if_neg (by rw [hk];decide)]
 have hb0:∀ k:Int,pubK k=true→owL c k=[0,(c:Int)+1]:=fun k hk=>by unfold owL;rw [if_pos hk]
 cases ha with
 | busy hk hL =>
  refine Ybh (k:=14) h hc (by decide) (by decide) hk (.inl hlv) (fun _ _=>rfl) ops_14 fun V hg hV=>?_
  obtain ⟨q,hq⟩:=List.exists_mem_of_ne_nil _ hL
  obtain ⟨b,k1,k2,k3⟩:=((hM.hs.q.ls c hc).2 q).1 hq
  obtain ⟨z,hz,ez⟩:=List.mem_map.1 (by rw [hbs];exact (Yb3.1 k1).1:b∈l.map KB.b)
  refine (mdetach_busy hV (by have:=hs.lay.few;omega) hc ⟨z,hz,by rw [ez];exact k3⟩).mono ?_
  rintro en w' ⟨e1,hg1⟩
  exact ⟨e1,l,hR,.of_later hV hg1⟩
 | detach hk hL =>
  refine Ybh (k:=14) h hc (by decide) (by decide) hk (.inl hlv) (fun _ _=>rfl) ops_14 fun V hg hV=>?_
  refine (mdetach_ok hV (by have:=hs.lay.few;omega) hc fun z hz ez=>?_).mono ?_
  ·have hbk:=hM.hs.q.is z.b (hR.mem hz)
   have hu:z.b.u=true:=by
    cases hu:z.b.u with
    | true=>rfl
    | false =>
     have:z.b.o=0:=by rw [hbk.fr hu];rfl
     omega
   have:=((hM.hs.q.ls c hc).2 z.b.off).2 ⟨z.b,Yb3.2 ⟨hR.mem hz,hu⟩,rfl,ez⟩
   rw [hL] at this;cases this
  ·rintro en w' ⟨e1,h1⟩
   exact ⟨e1,l,hR.live _,h1⟩
 | alloc hk =>
  refine Ybh (k:=1) h hc (by decide) (by decide) hk (.inl hlv) (fun _ _=>rfl) ops_1 fun V hg hV=>?_
  refine (malloc_any hV hs hc hx.n).mono ?_
  rintro en w' ⟨e1,N,h1⟩
  rw [hbs] at e1
  refine ⟨e1,_,hR.take hM.hs (by omega) N,?_⟩
  rw [(mTk_rest _ _ _ _).1,(mTk_rest _ _ _ _).2];exact h1
 | aligned hk =>
  refine Ybh (k:=2) h hc (by decide) (by decide) hk (.inl hlv) (fun _ _=>rfl) ops_2 fun V hg hV=>?_
  refine (maligned_any hV hs hc hx.n hx.a).mono ?_
  rintro en w' ⟨e1,N,h1⟩
  rw [hbs] at e1
  refine ⟨e1,_,hR.take hM.hs (by omega) N,?_⟩
  rw [(mTk_rest _ _ _ _).1,(mTk_rest _ _ _ _).2];exact h1
 | callocNo hk hno =>
  refine Ybh (k:=3) h hc (by decide) (by decide) hk (.inl hlv) (fun _ _=>rfl) ops_3 fun V hg hV=>?_
  refine (mcalloc_not hV hx.n hx.a hno).mono ?_
  rintro en w' ⟨e1,h1⟩
  exact ⟨e1,l,hR,.of_later hV h1⟩
 | calloc hk hlt =>
  refine Ybh (k:=3) h hc (by decide) (by decide) hk (.inl hlv) (fun _ _=>rfl) ops_3 fun V hg hV=>?_
  refine (mcalloc_any hV hs hc hx.n hx.a rfl hlt).mono ?_
  rintro en w' ⟨e1,N,h1⟩
  rw [hbs] at e1
  refine ⟨e1,_,hR.take hM.hs (by omega) N,?_⟩
  rw [(mTk_rest _ _ _ _).1,(mTk_rest _ _ _ _).2];exact h1
 | bad hk hne =>
  rcases hk with hk|hk|hk|hk|hk|hk
  ·rw [hb1 _ (by rw [hk];decide),← hbs] at hne ⊢
   refine Ybh (k:=4) h hc (by decide) (by decide) hk (.inl hlv) (fun _ _=>rfl) ops_4 fun V hg hV=>?_
   refine (mrealloc_bad hV hs hc hne).mono ?_
   rintro en w' ⟨e1,h1⟩
   exact ⟨e1,l,hR,.of_later hV h1⟩
  ·rw [hb0 _ (by rw [hk];decide),← hbs] at hne ⊢
   refine Ybh (k:=5) h hc (by decide) (by decide) hk (.inl hlv) (fun _ _=>rfl) ops_5 fun V hg hV=>?_
   refine (mfree_bad hV hs hc hne).mono ?_
   rintro en w' ⟨e1,h1⟩
   exact ⟨e1,l,hR,.of_later hV h1⟩
  ·rw [hb0 _ (by rw [hk];decide),← hbs] at hne ⊢
   refine Ybh (k:=6) h hc (by decide) (by decide) hk (.inl hlv) (fun _ _=>rfl) ops_6 fun V hg hV=>?_
   refine (mwrite_bad hV hs hc hne).mono ?_
   rintro en w' ⟨e1,h1⟩
   exact ⟨e1,l,hR,.of_later hV h1⟩
  ·rw [hb0 _ (by rw [hk];decide),← hbs] at hne ⊢
   refine Ybh (k:=7) h hc (by decide) (by decide) hk (.inl hlv) (fun _ _=>rfl) ops_7 fun V hg hV=>?_
   refine (mread_bad hV hs hc hne).mono ?_
   rintro en w' ⟨e1,h1⟩
   exact ⟨e1,l,hR,.of_later hV h1⟩
  ·rw [hb1 _ (by rw [hk];decide),← hbs] at hne ⊢
   refine Ybh (k:=11) h hc (by decide) (by decide) hk (.inl hlv) (fun _ _=>rfl) ops_11 fun V hg hV=>?_
   refine (mpublish_bad hV hs hc hne).mono ?_
   rintro en w' ⟨e1,h1⟩
   exact ⟨e1,l,hR,.of_later hV h1⟩
  ·rw [hb1 _ (by rw [hk];decide),← hbs] at hne ⊢
   refine Ybh (k:=12) h hc (by decide) (by decide) hk (.inl hlv) (fun _ _=>rfl) ops_12 fun V hg hV=>?_
   refine (mgive_bad hV hs hc hne).mono ?_
   rintro en w' ⟨e1,h1⟩
   exact ⟨e1,l,hR,.of_later hV h1⟩
 | reallocNo hk hu hz =>
  obtain ⟨i,hi,hw⟩:=Yck hu
  obtain ⟨A,y,C,hl,hA,hyu,hp,hyo,hyb⟩:=rep_at hM hR hi
  rw [hb1 _ (by rw [hk];decide),← hbs] at hu
  have how:=own_not hw (by rw [hk];decide)
  have hi':=hi
  rw [← hbs] at hi'
  refine Ybh (k:=4) h hc (by decide) (by decide) hk (.inl hlv) (fun _ _=>rfl) ops_4 fun V hg hV=>?_
  by_cases h18:18446744073709551560<x.n
  ·refine (mrealloc_size hV hs hc hu hi' hl hA hx.n h18).mono ?_
   rintro en w' ⟨e1,h1⟩
   have:rzE S.bs x.off x.n=2:=by unfold rzE;rw [hi];simp only;rw [if_pos h18]
   rw [this]
   exact ⟨e1,l,hR,.of_later hV h1⟩
  ·subst hl
   have hMs:=hM.hs
   rw [hR.amid] at hMs hz ⊢
   rw [← hp] at hz ⊢
   by_cases hle:Yat x.n≤y.b.s
   ·exact absurd (rzB_in (n:=x.n) hMs hyu (by omega) hle).2.2.2 hz
   ·have e4:=(rzB_out (n:=x.n) hMs hyu (by omega) (by omega)).2.2.2
    rw [e4] at hz ⊢
    rw [← hR.amid] at hz ⊢
    obtain ⟨⟨yo,ys,yu,yw,yn⟩,ya,ym,yc,yd⟩:=y
    have hyw:yw=((c+1:Nat):Int):=by
     have:gW S.bs i=yw:=hyo
     omega
    subst hyw
    rw [← hbs] at hz ⊢
    refine (mrealloc_not hV hs hc hu hi' rfl hA (by omega) (by show ys<Yat x.n;exact Nat.lt_of_not_le hle) hz).mono ?_
    rintro en w' ⟨e1,h1⟩
    have hmt:mtP ((A++(⟨⟨yo,ys,yu,((c+1:Nat):Int),yn⟩,ya,ym,yc,yd⟩:KB)::C).map KB.b) x.n 16=0:=by unfold mtP;rw [if_neg hz]
    rw [hmt] at e1
    exact ⟨e1,_,hR,h1⟩
 | realloc hk hu hz =>
  obtain ⟨i,hi,hw⟩:=Yck hu
  obtain ⟨A,y,C,hl,hA,hyu,hp,hyo,hyb⟩:=rep_at hM hR hi
  rw [hb1 _ (by rw [hk];decide),← hbs] at hu
  have how:=own_not hw (by rw [hk];decide)
  have hi':=hi
  rw [← hbs] at hi'
  refine Ybh (k:=4) h hc (by decide) (by decide) hk (.inl hlv) (fun _ _=>rfl) ops_4 fun V hg hV=>?_
  have h18:¬ 18446744073709551560<x.n:=fun h18=>by unfold rzE at hz;rw [hi] at hz;simp only at hz;rw [if_pos h18] at hz;cases hz
  subst hl
  have hMs:=hM.hs
  rw [hR.amid] at hMs
  by_cases hle:Yat x.n≤y.b.s
  ·obtain ⟨e1,e2,e3,e4⟩:=rzB_in (n:=x.n) hMs hyu (by omega) hle
   rw [← hR.amid,hp] at e3
   refine (mrealloc_in hV hs hc hu hi' rfl hA hyu (by omega) hle).mono ?_
   rintro en w' ⟨e5,N,h1⟩
   rw [e3]
   exact ⟨e5,_,hR.resized_in hM.hs hyu hp (by omega) hle,h1⟩
  ·obtain ⟨e1,e2,e3,e4⟩:=rzB_out (n:=x.n) hMs hyu (by omega) (by omega)
   rw [← hR.amid,hp] at e3 e4
   rw [e4] at hz
   obtain ⟨k1,s,k2,k3,k4,_⟩:=hM.hs.take hz (ow:=c+1) (by omega)
   obtain ⟨i1,i2,q1,q2,q3,q4,q5,q6⟩:=hR.places hM.hs hyu hz (ow:=c+1) (by omega)
   obtain ⟨⟨yo,ys,yu,yw,yn⟩,ya,ym,yc,yd⟩:=y
   have hyw:yw=((c+1:Nat):Int):=by
    have:gW S.bs i=yw:=hyo
    omega
   subst hyw
   have hfin:=fun N=>hR.resized_out (N:=N) hM.hs hyu rfl (by omega) hp (by omega) (by show ys<Yat x.n;exact Nat.lt_of_not_le hle) hz (q2 N) (q3 N) (q5 N) (q6 N)
   have hyo2:yo<1000000:=by
    have h1:=hM.hs.q.mem (hR.mem (x:=(⟨⟨yo,ys,yu,((c+1:Nat):Int),yn⟩,ya,ym,yc,yd⟩:KB)) (by simp))
    have h2:=hM.hs.q.top
    have h3:yo+ys≤S.E:=h1.2.2.1
    omega
   rw [← hbs] at hz q2
   refine (mrealloc_move hV hs hc hu hi' rfl hA (by omega) (by exact Nat.lt_of_not_le hle) hz q1 q2 q3 q4 q5 hyo2).mono ?_
   rintro en w' ⟨e5,N,h1⟩
   rw [hbs,k2] at e5
   rw [e3]
   exact ⟨e5,_,hfin N,h1⟩
 | freeNo hk hu hn =>
  obtain ⟨i,hi,hw⟩:=Yck hu
  obtain ⟨A,y,C,hl,hA,hyu,hp,hyo,hyb⟩:=rep_at hM hR hi
  rw [hb0 _ (by rw [hk];decide),← hbs] at hu
  rw [← hbs] at hi
  refine Ybh (k:=5) h hc (by decide) (by decide) hk (.inl hlv) (fun _ _=>rfl) ops_5 fun V hg hV=>?_
  obtain ⟨q,hq,eq⟩:=hn
  obtain ⟨X,Y,eX⟩:=List.append_of_mem hq
  have hg2:Yb4 S.nm q.1=some x.off:=by
   have:=hM.nk
   rw [eX] at this ⊢
   rw [← eq]
   exact get_at this
  refine (mfree_there hV hs hc hu hi hl hA ⟨q.1,hg2⟩).mono ?_
  rintro en w' ⟨e1,h1⟩
  exact ⟨e1,l,hR,.of_later hV h1⟩
 | free hk hu hn =>
  obtain ⟨i,hi,hw⟩:=Yck hu
  obtain ⟨A,y,C,hl,hA,hyu,hp,hyo,hyb⟩:=rep_at hM hR hi
  rw [hb0 _ (by rw [hk];decide),← hbs] at hu
  have hi':=hi
  rw [← hbs] at hi'
  refine Ybh (k:=5) h hc (by decide) (by decide) hk (.inl hlv) (fun _ _=>rfl) ops_5 fun V hg hV=>?_
  refine (mfree_ok hV hs hc hu hi' hl hA fun s hsm=>hn _ (get_mem hsm) rfl).mono ?_
  rintro en w' ⟨e1,h1⟩
  subst hl
  exact ⟨e1,_,hR.freed hM.hs hA hi,h1⟩
 | out hk hu hle =>
  obtain ⟨i,hi,hw⟩:=Yck hu
  obtain ⟨A,y,C,hl,hA,hyu,hp,hyo,hyb⟩:=rep_at hM hR hi
  have hy:y∈l:=by rw [hl];simp
  have hlen:=(hR.len hM hy hyu).2
  have hyd:y.d=datL S.ds x.off:=by rw [← hp];exact hR.d y hy hyu
  rw [← hbs] at hi
  rcases hk with hk|hk
  ·rw [hb0 _ (by rw [hk];decide),← hbs] at hu
   refine Ybh (k:=6) h hc (by decide) (by decide) hk (.inl hlv) (fun _ _=>rfl) ops_6 fun V hg hV=>?_
   refine (mwrite_out hV hs hc hx.i hu hi hl hA (by omega) (by rw [hyd];omega)).mono ?_
   rintro en w' ⟨e1,h1⟩
   exact ⟨e1,l,hR,.of_later hV h1⟩
  ·rw [hb0 _ (by rw [hk];decide),← hbs] at hu
   refine Ybh (k:=7) h hc (by decide) (by decide) hk (.inl hlv) (fun _ _=>rfl) ops_7 fun V hg hV=>?_
   refine (mread_out hV hs hc hx.i hu hi hl hA (by omega) (by rw [hyd];omega)).mono ?_
   rintro en w' ⟨e1,h1⟩
   exact ⟨e1,l,hR,.of_later hV h1⟩
 | read hk hu hlt =>
  obtain ⟨i,hi,hw⟩:=Yck hu
  obtain ⟨A,y,C,hl,hA,hyu,hp,hyo,hyb⟩:=rep_at hM hR hi
  have hy:y∈l:=by rw [hl];simp
  have hlen:=(hR.len hM hy hyu).2
  have hyd:y.d=datL S.ds x.off:=by rw [← hp];exact hR.d y hy hyu
  rw [← hbs] at hi
  rw [hb0 _ (by rw [hk];decide),← hbs] at hu
  refine Ybh (k:=7) h hc (by decide) (by decide) hk (.inl hlv) (fun _ _=>rfl) ops_7 fun V hg hV=>?_
  refine (mread_ok hV hs hc hx.i hu hi hl hA (by omega) (by rw [hyd];omega)).mono ?_
  rintro en w' ⟨e1,h1⟩
  rw [← hyd]
  exact ⟨e1,l,hR,.of_later hV h1⟩
 | write hk hu hlt =>
  obtain ⟨i,hi,hw⟩:=Yck hu
  obtain ⟨A,y,C,hl,hA,hyu,hp,hyo,hyb⟩:=rep_at hM hR hi
  have hy:y∈l:=by rw [hl];simp
  have hlen:=(hR.len hM hy hyu).2
  have hyd:y.d=datL S.ds x.off:=by rw [← hp];exact hR.d y hy hyu
  rw [← hbs] at hi
  rw [hb0 _ (by rw [hk];decide),← hbs] at hu
  refine Ybh (k:=6) h hc (by decide) (by decide) hk (.inl hlv) (fun _ _=>rfl) ops_6 fun V hg hV=>?_
  refine (mwrite_ok hV hs hc hx.i hu hi hl hA (by omega) (by rw [hyd];omega)).mono ?_
  rintro en w' ⟨e1,h1⟩
  subst hl
  exact ⟨e1,_,hR.worded hM.hs hyu hp _ _,h1⟩
 | publish hk hu hi =>
  obtain ⟨A,y,C,hl,hA,hyu,hp,hyo,hyb⟩:=rep_at hM hR hi
  rw [← hbs] at hi
  rw [hb1 _ (by rw [hk];decide),← hbs] at hu
  refine Ybh (k:=11) h hc (by decide) (by decide) hk (.inl hlv) (fun _ _=>rfl) ops_11 fun V hg hV=>?_
  refine (mpublish_ok hV hs hc hu hi hl hA).mono ?_
  rintro en w' ⟨e1,h1⟩
  subst hl
  exact ⟨e1,_,hR.owned hA hyu 0,h1⟩
 | giveArg hk hu ht =>
  rw [hb1 _ (by rw [hk];decide),← hbs] at hu
  refine Ybh (k:=12) h hc (by decide) (by decide) hk (.inl hlv) (fun _ _=>rfl) ops_12 fun V hg hV=>?_
  refine (mgive_arg hV hs hc hu ht).mono ?_
  rintro en w' ⟨e1,h1⟩
  exact ⟨e1,l,hR,.of_later hV h1⟩
 | giveNone hk hu hk8 ht hl =>
  rw [hb1 _ (by rw [hk];decide),← hbs] at hu
  refine Ybh (k:=12) h hc (by decide) (by decide) hk (.inl hlv) (fun _ _=>rfl) ops_12 fun V hg hV=>?_
  refine (mgive_none hV hs hc hu hk8 ht hl).mono ?_
  rintro en w' ⟨e1,h1⟩
  exact ⟨e1,l,hR,.of_later hV h1⟩
 | give hk hu hk8 ht hlt hi =>
  obtain ⟨A,y,C,hl,hA,hyu,hp,hyo,hyb⟩:=rep_at hM hR hi
  rw [← hbs] at hi
  rw [hb1 _ (by rw [hk];decide),← hbs] at hu
  refine Ybh (k:=12) h hc (by decide) (by decide) hk (.inl hlv) (fun _ _=>rfl) ops_12 fun V hg hV=>?_
  refine (mgive_ok hV hs hc hu hk8 ht hlt hi hl hA).mono ?_
  rintro en w' ⟨e1,h1⟩
  subst hl
  exact ⟨e1,_,hR.owned hA hyu _,h1⟩
 | growNo hk hne =>
  refine Ybh (k:=13) h hc (by decide) (by decide) hk (.inl hlv) (fun _ _=>rfl) ops_13 fun V hg hV=>?_
  by_cases h1:x.n % 16≠0∨x.n<48
  ·have e0:grF all S.E x.n=1:=by unfold grF;rw [if_pos h1]
   rw [e0]
   refine (mgrow_arg hV hx.n h1).mono ?_
   rintro en w' ⟨e1,h1⟩
   exact ⟨e1,l,hR,.of_later hV h1⟩
  ·by_cases h2:all<S.E+x.n
   ·have e0:grF all S.E x.n=3:=by unfold grF;rw [if_neg h1,if_pos h2]
    rw [e0]
    refine (mgrow_mem hV hs.lay hx.n (by omega) (by omega) h2).mono ?_
    rintro en w' ⟨e1,h1⟩
    exact ⟨e1,l,hR,.of_later hV h1⟩
   ·exact absurd (by unfold grF;rw [if_neg h1,if_neg h2]) hne
 | grow hk hz =>
  refine Ybh (k:=13) h hc (by decide) (by decide) hk (.inl hlv) (fun _ _=>rfl) ops_13 fun V hg hV=>?_
  unfold grF at hz
  by_cases h1:x.n % 16≠0∨x.n<48
  ·rw [if_pos h1] at hz;cases hz
  ·rw [if_neg h1] at hz
   by_cases h2:all<S.E+x.n
   ·rw [if_pos h2] at hz;cases hz
   ·refine (mgrow_ok hV hs.lay (by omega) (by omega) (by omega) (by omega)).mono ?_
    rintro en w' ⟨e1,h1⟩
    exact ⟨e1,_,hR.grown _,h1⟩
 | nameBad hk hno =>
  have hE:nmE S.nm x.name=8:=by unfold nmE;rw [if_neg hno]
  rcases hk with hk|hk|hk
  ·refine Ybh (k:=8) h hc (by decide) (by decide) hk (.inl hlv) (fun _ _=>rfl) ops_8 fun V hg hV=>?_
   refine (mconstruct_bad hV hx.name hE).mono ?_
   rintro en w' ⟨e1,h1⟩
   exact ⟨e1,l,hR,.of_later hV h1⟩
  ·refine Ybh (k:=9) h hc (by decide) (by decide) hk (.inl hlv) (fun _ _=>rfl) ops_9 fun V hg hV=>?_
   refine (mfind_any hV hx.name).mono ?_
   rintro en w' ⟨e1,h1⟩
   have hP:nmP S.nm x.name=0:=by unfold nmP;rw [hE,if_neg (by decide)]
   rw [hE,hP] at e1
   exact ⟨e1,l,hR,.of_later hV h1⟩
  ·refine Ybh (k:=10) h hc (by decide) (by decide) hk (.inl hlv) (fun _ _=>rfl) ops_10 fun V hg hV=>?_
   refine (mdestroy_bad hV hx.name (by rw [hE];decide)).mono ?_
   rintro en w' ⟨e1,h1⟩
   rw [hE] at e1
   exact ⟨e1,l,hR,.of_later hV h1⟩
 | nameNone hk hok hn =>
  have hE:nmE S.nm x.name=6:=by unfold nmE;rw [if_pos hok,get_none hn];rfl
  rcases hk with hk|hk
  ·refine Ybh (k:=9) h hc (by decide) (by decide) hk (.inl hlv) (fun _ _=>rfl) ops_9 fun V hg hV=>?_
   refine (mfind_any hV hx.name).mono ?_
   rintro en w' ⟨e1,h1⟩
   have hP:nmP S.nm x.name=0:=by unfold nmP;rw [hE,if_neg (by decide)]
   rw [hE,hP] at e1
   exact ⟨e1,l,hR,.of_later hV h1⟩
  ·refine Ybh (k:=10) h hc (by decide) (by decide) hk (.inl hlv) (fun _ _=>rfl) ops_10 fun V hg hV=>?_
   refine (mdestroy_bad hV hx.name (by rw [hE];decide)).mono ?_
   rintro en w' ⟨e1,h1⟩
   rw [hE] at e1
   exact ⟨e1,l,hR,.of_later hV h1⟩
 | find hk hok hnm =>
  have hget:Yb4 S.nm x.name=some p:=by have:=hM.nk;rw [hnm] at this ⊢;exact get_at this
  have hE:nmE S.nm x.name=0:=by unfold nmE;rw [if_pos hok,hget];rfl
  refine Ybh (k:=9) h hc (by decide) (by decide) hk (.inl hlv) (fun _ _=>rfl) ops_9 fun V hg hV=>?_
  refine (mfind_any hV hx.name).mono ?_
  rintro en w' ⟨e1,h1⟩
  have hP:nmP S.nm x.name=p:=by unfold nmP;rw [hE,if_pos rfl,hget];rfl
  rw [hE,hP] at e1
  exact ⟨e1,l,hR,.of_later hV h1⟩
 | @destroy A C p0 hk hok hnm =>
  have hget:Yb4 S.nm x.name=some p0:=by have:=hM.nk;rw [hnm] at this ⊢;exact get_at this
  have hdel:nmDel S.nm x.name=A++C:=by have:=hM.nk;rw [hnm] at this ⊢;exact del_at this
  obtain ⟨b,k1,k2,k3⟩:=hM.nu (x.name,p0) (by rw [hnm];simp)
  obtain ⟨X,Y,eX,hub⟩:=us_split k1
  have hf:fstN (pF p0) S.bs=some X.length:=by
   have:=hM.hs.q
   rw [eX] at this ⊢
   rw [← show b.off+32=p0 from k3];exact this.find hub
  obtain ⟨A1,y,C1,hl,hA,hyu,hp,hyo,hyb⟩:=rep_at hM hR hf
  have hf':=hf
  rw [← hbs] at hf'
  refine Ybh (k:=10) h hc (by decide) (by decide) hk (.inl hlv) (fun _ _=>rfl) ops_10 fun V hg hV=>?_
  refine (mdestroy_ok hV hs hx.name hok hget hM.nk hf' hl hA).mono ?_
  rintro en w' ⟨e1,h1⟩
  rw [hdel] at h1
  subst hl
  exact ⟨e1,_,(hR.named (A++C)).freed hM.hs hA hf,h1⟩
 | @consThere A C p0 hk hok hnm =>
  have hget:Yb4 S.nm x.name=some p0:=by have:=hM.nk;rw [hnm] at this ⊢;exact get_at this
  have hE:nmE S.nm x.name=0:=by unfold nmE;rw [if_pos hok,hget];rfl
  refine Ybh (k:=8) h hc (by decide) (by decide) hk (.inl hlv) (fun _ _=>rfl) ops_8 fun V hg hV=>?_
  refine (mconstruct_there hV hx.name hE).mono ?_
  rintro en w' ⟨e1,h1⟩
  exact ⟨e1,l,hR,.of_later hV h1⟩
 | consFull hk hok hn hf =>
  have hE:nmE S.nm x.name=6:=by unfold nmE;rw [if_pos hok,get_none hn];rfl
  refine Ybh (k:=8) h hc (by decide) (by decide) hk (.inl hlv) (fun _ _=>rfl) ops_8 fun V hg hV=>?_
  refine (mconstruct_full hV hx.name hE hf).mono ?_
  rintro en w' ⟨e1,h1⟩
  exact ⟨e1,l,hR,.of_later hV h1⟩
 | consNo hk hok hn hl hft =>
  have hE:nmE S.nm x.name=6:=by unfold nmE;rw [if_pos hok,get_none hn];rfl
  rw [← hbs] at hft ⊢
  refine Ybh (k:=8) h hc (by decide) (by decide) hk (.inl hlv) (fun _ _=>rfl) ops_8 fun V hg hV=>?_
  refine (mconstruct_not hV hs hx.name hE hl hx.n hft).mono ?_
  rintro en w' ⟨e1,h1⟩
  have hmt:mtP (l.map KB.b) x.n 16=0:=by unfold mtP;rw [if_neg hft]
  rw [hmt] at e1
  exact ⟨e1,l,hR,h1⟩
 | cons hk hok hn hl hft =>
  have hE:nmE S.nm x.name=6:=by unfold nmE;rw [if_pos hok,get_none hn];rfl
  obtain ⟨k1,s,k2,k3,k4,_⟩:=hM.hs.take hft (ow:=0) (by omega)
  have hT:=fun N=>(hR.take hM.hs (ow:=0) (m:=x.n) (a:=16) (by omega) N).named (S.nm++[(x.name,tkP S.bs x.n 16)])
  have hlv':(mTk S 0 x.n 16).lv=S.lv:=(mTk_rest _ _ _ _).2
  rw [← hbs] at hft
  refine Ybh (k:=8) h hc (by decide) (by decide) hk (.inl hlv) (fun _ _=>rfl) ops_8 fun V hg hV=>?_
  refine (mconstruct_ok hV hs hx.name hE hl hx.n hft (by rw [hbs,k2];omega)).mono ?_
  rintro en w' ⟨e1,N,h1⟩
  rw [hbs,k2] at e1 h1
  refine ⟨e1,_,hT N,?_⟩
  show MdR V w' F P all _ (S.nm++[(x.name,tkP S.bs x.n 16)]) (mTk S 0 x.n 16).lv
  rw [hlv'];exact h1
theorem mstep {c:Int} (h:Md w F P all l S.nm S.lv) (hM:HM K S) (hR:Rep l S) (hx:OpOk x) (hall:all≤4800) (ha:Ybz all S c x S' e p v) :
  Calls Tryz.prog 13 #[.pointer (some ⟨P,0,none⟩),.int .i64 c,.agg (opC x)] w fun en w'=>en=.returned (.agg #[.int .i64 (e:Nat),.int .u64 (p:Nat),.int .u64 (v:Nat)])∧∃ l',Rep l' S'∧MdR w w' F P all l' S'.nm S'.lv:=by
 cases ha with
 | arg ha =>
  have key:Calls Tryz.prog 13 #[.pointer (some ⟨P,0,none⟩),.int .i64 c,.agg (opC x)] w fun e w'=>e=.returned (.agg #[.int .i64 1,.int .u64 0,.int .u64 0])∧w.grownBy w' none:=by
   by_cases h1:x.kind<1
   ·exact mdo_low h1
   ·by_cases h2:15<x.kind
    ·exact mdo_high h2
    ·exact mdo_noone ⟨by omega,by omega⟩ (by omega)
  refine key.mono ?_
  rintro en w' ⟨e1,h1⟩
  exact ⟨e1,l,hR,.of_later h h1⟩
 | client hc h8 h1 h2 hl =>
  subst hc
  refine (mdo_client h h8 ⟨h1,h2⟩ hl).mono ?_
  rintro en w' ⟨e1,h1⟩
  exact ⟨e1,l,hR,.of_later h h1⟩
 | there hc h8 hk hl =>
  subst hc
  refine Ybh (k:=15) h h8 (by decide) (by decide) hk (.inr rfl) (fun _ _=>rfl) ops_15 fun V hg hV=>?_
  refine (mattach_there hV h8 hl).mono ?_
  rintro en w' ⟨e1,h1⟩
  exact ⟨e1,l,hR,.of_later hV h1⟩
 | attach hc h8 hk hl =>
  subst hc
  refine Ybh (k:=15) h h8 (by decide) (by decide) hk (.inr rfl) (fun _ _=>rfl) ops_15 fun V hg hV=>?_
  refine (mattach_ok hV h8 hl).mono ?_
  rintro en w' ⟨e1,h1⟩
  exact ⟨e1,l,hR.live _,h1⟩
 | act hc h8 h1 h2 hl ha =>
  subst hc
  exact mact h hM hR h8 hx hall hl ha
end
end
end Go.Proofs.YtfhiljglfhekdaaGreat
