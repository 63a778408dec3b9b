/-
  Texts of one layer, one behind the other: memory, contracts of the functions, and what follows of them.
  Conditions: as each theorem says.
-/
import Derived.Test.YtfhiljglfhekdaaGreatLHsa
import Derived.Test.YtfhiljglfhekdaaGreatLMpa
import Derived.Test.YtfhiljglfhekdaaGreatLKcb
import Derived.Test.YtfhiljglfhekdaaGreatLKfa
set_option linter.unusedVariables false
set_option linter.unusedSimpArgs false
set_option maxRecDepth 100000
namespace Go.Proofs.YtfhiljglfhekdaaGreat
open Go.RowKit
section
structure HM (K:Nat) (S:MS):Prop where
 hs:HS S.E S.bs S.L
 dl:∀ b∈usL S.bs,(datL S.ds (b.off+32)).length=(b.n+7) / 8
 dn:S.ds.length≤K
 nn:S.nm.length≤16
 no:∀ q∈S.nm,nmOk q.1
 nk:(S.nm.map Prod.fst).Nodup
 np:(S.nm.map Prod.snd).Nodup
 nu:∀ q∈S.nm,∃ b∈usL S.bs,b.o=0∧b.off+32=q.2
def Yed (S:MS) (p:Nat):MS:={ S with bs:=frB S.bs p,L:=frL S.bs S.L p,ds:=drpL S.ds p }
def killL (S:MS):List Nat→MS
 | []=>S
 | x::r=>killL (Yed S (x+32)) r
def killM (S:MS) (c:Nat):MS:={ killL S (S.L c) with lv:=oth S.lv c false }
section
variable {K E p i n m a:Nat} {S:MS} {bs A C U V:List Blk} {b b':Blk} {L:Nat→List Nat}
theorem Yba {α:Type} {A C:List α} {b x:α}:x∈A++b::C↔x=b∨x∈A++C:=by
 simp only [List.mem_append,List.mem_cons]
 constructor
 ·rintro (h|h|h)
  ·exact .inr (.inl h)
  ·exact .inl h
  ·exact .inr (.inr h)
 ·rintro (h|h|h)
  ·exact .inr (.inl h)
  ·exact .inl h
  ·exact .inr (.inr h)
theorem HM.mono {K':Nat} (h:HM K S) (hk:K≤K'):HM K' S:={ h with dn:=Nat.le_trans h.dn hk }
theorem HM.live (h:HM K S) (lv:Nat→Bool):HM K { S with lv:=lv }:=⟨h.hs,h.dl,h.dn,h.nn,h.no,h.nk,h.np,h.nu⟩
theorem us_split (h:b∈usL bs):∃ A C,bs=A++b::C∧b.u=true:=by
 obtain ⟨h1,h2⟩:=Yb3.1 h
 obtain ⟨A,C,e⟩:=List.append_of_mem h1
 exact ⟨A,C,e,h2⟩
theorem HM.freed (h:HM K S) (hf:fstN (pF p) S.bs=some i) (hn:∀ q∈S.nm,q.2≠p):HM K (Yed S p):=by
 obtain ⟨A,b,C,e,hi,hu,hp,hb⟩:=h.hs.q.found hf
 have hus:usL S.bs=usL A++b::usL C:=by rw [e,Yb2 hu]
 have hus':usL (frB S.bs p)=usL A++usL C:=by
  rw [e] at hf ⊢
  rw [(frB_at (L:=S.L) hi hf).1,Ydf,Yd8 rfl]
 have hap:=h.hs.q
 rw [e] at hap
 have hap:=hap.apart
 refine ⟨h.hs.frees p,fun x hx=>?_,Nat.le_trans (drpL_len _ _) h.dn,h.nn,h.no,h.nk,h.np,fun q hq=>?_⟩
 ·replace hx:x∈usL A++usL C:=by rw [← hus'];exact hx
  show (datL (drpL S.ds p) (x.off+32)).length=_
  have:=hap x hx
  rw [Yc8,if_neg (by omega)]
  exact h.dl x (by rw [hus];exact Yba.2 (.inr hx))
 ·obtain ⟨b',k1,k2,k3⟩:=h.nu q hq
  refine ⟨b',?_,k2,k3⟩
  show b'∈usL (frB S.bs p)
  rw [hus']
  rw [hus] at k1
  rcases Yba.1 k1 with r|r
  ·rw [r,hp] at k3;exact absurd k3.symm (hn q hq)
  ·exact r
theorem Yek {o:Nat} (hf:Yax S.bs m a=0):mTk S o m a={ S with bs:=tkB S.bs o m a,L:=tkL S.bs S.L o m a,ds:=putL S.ds (tkP S.bs m a) (sizN [] ((m+7) / 8)) }:=if_pos hf
theorem mTk_no {o:Nat} (hf:Yax S.bs m a≠0):mTk S o m a=S:=if_neg hf
theorem HM.take (h:HM K S) {o:Nat} (ho:o≤8) (m a:Nat):HM (K+1) (mTk S o m a):=by
 by_cases hf:Yax S.bs m a=0
 ·rw [Yek hf]
  obtain ⟨k1,s,k2,k3,k4,U,V,k5,k6,k7⟩:=h.hs.take hf ho
  refine ⟨k1,fun x hx=>?_,Nat.le_trans (putL_len _ _ _) (by have:=h.dn;omega),h.nn,h.no,h.nk,h.np,fun q hq=>?_⟩
  ·show (datL (putL S.ds (tkP S.bs m a) (sizN [] ((m+7) / 8))) (x.off+32)).length=_
   replace hx:x∈U++(⟨tkP S.bs m a - 32,s,true,o,m⟩:Blk)::V:=by rw [← k6];exact hx
   rw [Ycr]
   rcases Yba.1 hx with r|r
   ·rw [r,if_pos (by show tkP S.bs m a - 32+32=tkP S.bs m a;omega),sizN_len]
   ·have:=k7 x r
    rw [if_neg (by omega)]
    exact h.dl x (by rw [k5];exact r)
  ·obtain ⟨b',q1,q2,q3⟩:=h.nu q hq
   refine ⟨b',?_,q2,q3⟩
   show b'∈usL (tkB S.bs o m a)
   rw [k6]
   exact Yba.2 (.inr (by rw [← k5];exact q1))
 ·rw [mTk_no hf]
  exact h.mono (by omega)
theorem HM.named (h:HM K S) (hf:Yax S.bs m a=0) {s:ByteArray} (hs:nmOk s) (hn:∀ q∈S.nm,q.1≠s) (hl:S.nm.length<16):HM (K+1) { mTk S 0 m a with nm:=S.nm++[(s,tkP S.bs m a)] }:=by
 have h1:=h.take (o:=0) (by omega) m a
 obtain ⟨k1,sz,k2,k3,k4,U,V,k5,k6,k7⟩:=h.hs.take hf (ow:=0) (by omega)
 have hus:usL (mTk S 0 m a).bs=U++⟨tkP S.bs m a - 32,sz,true,0,m⟩::V:=by rw [Yek hf];exact k6
 refine ⟨h1.hs,h1.dl,h1.dn,by simp;omega,fun q hq=>?_,?_,?_,fun q hq=>?_⟩
 ·rcases List.mem_append.1 hq with r|r
  ·exact h.no q r
  ·rw [List.mem_singleton.1 r];exact hs
 ·show ((S.nm++[(s,tkP S.bs m a)]).map Prod.fst).Nodup
  rw [List.map_append,List.nodup_append]
  refine ⟨h.nk,by simp,fun x hx y hy=>?_⟩
  obtain ⟨q,hq,e⟩:=List.mem_map.1 hx
  have hy':y=s:=by simpa using hy
  rw [hy',← e];exact hn q hq
 ·show ((S.nm++[(s,tkP S.bs m a)]).map Prod.snd).Nodup
  rw [List.map_append,List.nodup_append]
  refine ⟨h.np,by simp,fun x hx y hy=>?_⟩
  obtain ⟨q,hq,e⟩:=List.mem_map.1 hx
  have hy':y=tkP S.bs m a:=by simpa using hy
  obtain ⟨b',q1,q2,q3⟩:=h.nu q hq
  have:=k7 b' (by rw [← k5];exact q1)
  omega
 ·show ∃ b∈usL (mTk S 0 m a).bs,_
  rw [hus]
  rcases List.mem_append.1 hq with r|r
  ·obtain ⟨b',q1,q2,q3⟩:=h.nu q r
   exact ⟨b',Yba.2 (.inr (by rw [← k5];exact q1)),q2,q3⟩
  ·rw [List.mem_singleton.1 r]
   exact ⟨_,Yba.2 (.inl rfl),rfl,by show tkP S.bs m a - 32+32=tkP S.bs m a;omega⟩
def rzM (S:MS) (p n:Nat):MS:={ S with bs:=rzB S.bs p n,L:=rzL S.bs S.L p n,ds:=putL (drpL S.ds p) (rzP S.bs p n) (sizN (datL S.ds p) ((n+7) / 8)) }
theorem HM.rz_key (h:HM K S) (hf:fstN (pF p) S.bs=some i) (hz:rzE S.bs p n=0):∃ A b C,S.bs=A++b::C∧A.length=i∧b.u=true∧b.off+32=p∧S.bs.getD i default=b∧∃ s o,HS S.E (rzB S.bs p n) (rzL S.bs S.L p n)∧32≤rzP S.bs p n∧∃ U V,usL (rzB S.bs p n)=U++⟨rzP S.bs p n - 32,s,true,o,n⟩::V∧(∀ x,x∈U++V↔x∈usL A++usL C)∧∀ x∈U++V,x.off≠rzP S.bs p n - 32:=by
 obtain ⟨A,b,C,e,hi,hu,hp,hb⟩:=h.hs.q.found hf
 refine ⟨A,b,C,e,hi,hu,hp,hb,?_⟩
 have hap:=h.hs.q
 rw [e] at hap
 have hap:=hap.apart
 have hq:=h.hs
 have hbk:=hq.q.is b (by rw [e];simp)
 have hlo:=hq.q.mem (b:=b) (by rw [e];simp)
 by_cases h18:18446744073709551560<n
 ·unfold rzE at hz;rw [hf] at hz;simp only at hz;rw [if_pos h18] at hz;cases hz
 ·rw [e] at hq hz ⊢
  subst hp
  by_cases hle:Yat n≤b.s
  ·obtain ⟨e1,e2,e3,e4⟩:=rzB_in (n:=n) hq hu (by omega) hle
   rw [e1,e2,e3]
   have hn4:=need_48 n
   obtain ⟨k1,s,k2⟩:=(hq.relen hu (n:=n) (by omega)).cuts (by exact hu) hle
   refine ⟨s,b.o,k1,by omega,usL A,usL C,?_,fun x=>Iff.rfl,fun x hx=>?_⟩
   ·rw [Nat.add_sub_cancel]
    refine k2.trans ?_
    show usL A++(⟨b.off,s,b.u,b.o,n⟩:Blk)::usL C=_
    rw [hu]
   ·rw [Nat.add_sub_cancel];exact hap x hx
  ·obtain ⟨e1,e2,e3,e4⟩:=rzB_out (n:=n) hq hu (by omega) (by omega)
   rw [e4] at hz
   rw [if_pos hz] at e1 e2
   rw [e1,e2,e3]
   have h8:b.o.toNat≤8:=by have:=hbk.us hu;omega
   obtain ⟨k1,s,k2,k3,k4,U,V,k5,k6,k7⟩:=hq.take hz h8
   have hin:b∈U++V:=by rw [← k5,Yb2 hu];simp
   have hbm:b∈usL (tkB (A++b::C) b.o.toNat n 16):=by rw [k6];exact Yba.2 (.inr hin)
   obtain ⟨A2,C2,e5,_⟩:=us_split hbm
   have hf2:fstN (pF (b.off+32)) (tkB (A++b::C) b.o.toNat n 16)=some A2.length:=by
    have:=k1.q;rw [e5] at this ⊢;exact this.find hu
   have hus2:usL (frB (tkB (A++b::C) b.o.toNat n 16) (b.off+32))=usL A2++usL C2:=by
    rw [e5] at hf2 ⊢
    rw [(frB_at (L:=S.L) rfl hf2).1,Ydf,Yd8 rfl]
   have hsplit:usL A2++b::usL C2=U++⟨tkP (A++b::C) n 16 - 32,s,true,(b.o.toNat:Int),n⟩::V:=by rw [← k6,e5,Yb2 hu]
   have hnb:b.off≠tkP (A++b::C) n 16 - 32:=k7 b hin
   have hap2:=k1.q
   rw [e5] at hap2
   have hap2:=hap2.apart
   have hnew:(⟨tkP (A++b::C) n 16 - 32,s,true,(b.o.toNat:Int),n⟩:Blk)∈usL A2++usL C2:=by
    have:(⟨tkP (A++b::C) n 16 - 32,s,true,(b.o.toNat:Int),n⟩:Blk)∈usL A2++b::usL C2:=by rw [hsplit];simp
    rcases Yba.1 this with r|r
    ·exact absurd (congrArg Blk.off r).symm hnb
    ·exact r
   obtain ⟨U3,V3,e6⟩:=List.append_of_mem hnew
   have hnd3:∀ x∈U3++V3,x.off≠tkP (A++b::C) n 16 - 32:=fun x hx he=>by
    have hpw:(usL A2++usL C2).Pairwise fun x y=>x.off<y.off:=by
     have h1:=k1.q.ch.up
     rw [e5] at h1
     have h2:(A2++C2).Pairwise fun x y=>x.off<y.off:=h1.sublist (by simp)
     rw [← usL_app]
     exact h2.sublist List.filter_sublist
    rw [e6] at hpw
    obtain ⟨g1,g2⟩:=up_amid hpw
    rcases List.mem_append.1 hx with r|r
    ·have:=g1 x r
     have e7:(⟨tkP (A++b::C) n 16 - 32,s,true,(b.o.toNat:Int),n⟩:Blk).off=tkP (A++b::C) n 16 - 32:=rfl
     omega
    ·have:=g2 x r
     have e7:(⟨tkP (A++b::C) n 16 - 32,s,true,(b.o.toNat:Int),n⟩:Blk).off=tkP (A++b::C) n 16 - 32:=rfl
     omega
   refine ⟨s,b.o.toNat,k1.frees _,by omega,U3,V3,by rw [hus2,e6],fun x=>?_,hnd3⟩
   constructor
   ·intro hx
    have hx1:x∈usL A2++usL C2:=by rw [e6];exact Yba.2 (.inr hx)
    have hx2:x∈U++⟨tkP (A++b::C) n 16 - 32,s,true,(b.o.toNat:Int),n⟩::V:=by rw [← hsplit];exact Yba.2 (.inr hx1)
    rcases Yba.1 hx2 with r|r
    ·exact absurd (congrArg Blk.off r) (hnd3 x hx)
    ·rw [← k5,Yb2 hu] at r
     rcases Yba.1 r with r|r
     ·exact absurd (congrArg Blk.off r) (hap2 x hx1)
     ·exact r
   ·intro hx
    have hx2:x∈U++V:=by rw [← k5,Yb2 hu];exact Yba.2 (.inr hx)
    have hx3:x∈usL A2++b::usL C2:=by rw [hsplit];exact Yba.2 (.inr hx2)
    rcases Yba.1 hx3 with r|r
    ·exact absurd (congrArg Blk.off r) (hap x hx)
    ·rw [e6] at r
     rcases Yba.1 r with r|r
     ·exact absurd (congrArg Blk.off r) (k7 x hx2)
     ·exact r
theorem HM.resized (h:HM K S) (hf:fstN (pF p) S.bs=some i) (ho:gW S.bs i≠0) (hn:n<18446744073709551616) (hz:rzE S.bs p n=0):HM (K+1) (rzM S p n):=by
 obtain ⟨A,b,C,e,hi,hu,hp,hb,key⟩:=h.rz_key hf hz
 have hus:usL S.bs=usL A++b::usL C:=by rw [e,Yb2 hu]
 have hap:=h.hs.q
 rw [e] at hap
 have hap:=hap.apart
 have hbo:b.o≠0:=by rw [← hb];exact ho
 have hno:∀ q∈S.nm,∃ b'∈usL A++usL C,b'.o=0∧b'.off+32=q.2:=fun q hq=>by
  obtain ⟨b',q1,q2,q3⟩:=h.nu q hq
  rw [hus] at q1
  rcases Yba.1 q1 with r|r
  ·rw [r] at q2;exact absurd q2 hbo
  ·exact ⟨b',r,q2,q3⟩
 have hdn:(putL (drpL S.ds p) (rzP S.bs p n) (sizN (datL S.ds p) ((n+7) / 8))).length≤K+1:=by
  have h1:=putL_len (drpL S.ds p) (rzP S.bs p n) (sizN (datL S.ds p) ((n+7) / 8))
  have h2:=drpL_len S.ds p
  have:=h.dn
  omega
 obtain ⟨s,o,k1,k2,U,V,k3,k4,k5⟩:=key
 refine ⟨k1,fun x hx=>?_,hdn,h.nn,h.no,h.nk,h.np,fun q hq=>?_⟩
 ·replace hx:x∈U++(⟨rzP S.bs p n - 32,s,true,o,n⟩:Blk)::V:=by rw [← k3];exact hx
  show (datL (putL (drpL S.ds p) (rzP S.bs p n) (sizN (datL S.ds p) ((n+7) / 8))) (x.off+32)).length=_
  rw [Ycr]
  rcases Yba.1 hx with r|r
  ·rw [r,if_pos (by show rzP S.bs p n - 32+32=rzP S.bs p n;omega),sizN_len]
  ·have h1:=k5 x r
   have h2:=hap x ((k4 x).1 r)
   rw [if_neg (by omega),Yc8,if_neg (by omega)]
   exact h.dl x (by rw [hus];exact Yba.2 (.inr ((k4 x).1 r)))
 ·obtain ⟨b',q1,q2,q3⟩:=hno q hq
  refine ⟨b',?_,q2,q3⟩
  show b'∈usL (rzB S.bs p n)
  rw [k3]
  exact Yba.2 (.inr ((k4 b').2 q1))
theorem HS.grows (h:HS E bs L) (h16:n % 16=0) (h48:48≤n) (hE:E+n≤4800):HS (E+n) (grJ bs E n) L∧usL (grJ bs E n)=usL bs:=by
 have hq:HQ (E+n) (bs++[Ya4 E n]) L:=by
  refine ⟨Ybk.app.2 ⟨E,h.q.ch,rfl,by show 0<n;omega,h16,rfl⟩,hE,fun x hx=>?_,?_⟩
  ·rcases List.mem_append.1 hx with r|r
   ·exact h.q.is x r
   ·rw [List.mem_singleton.1 r];exact freeB_ok h48
  ·rw [Yd8 rfl,show usL ([]:List Blk)=[] from rfl,List.append_nil];exact h.q.ls
 refine ⟨hq.join,?_⟩
 unfold grJ
 rw [Ydf,Yd8 rfl,show usL ([]:List Blk)=[] from rfl,List.append_nil]
theorem HM.grown (h:HM K S) (h16:n % 16=0) (h48:48≤n) (hE:S.E+n≤4800):HM K { S with E:=S.E+n,bs:=grJ S.bs S.E n }:=by
 obtain ⟨k1,k2⟩:=h.hs.grows h16 h48 hE
 exact ⟨k1,fun x hx=>h.dl x (by rw [← k2];exact hx),h.dn,h.nn,h.no,h.nk,h.np,fun q hq=>by
  obtain ⟨b',q1,q2⟩:=h.nu q hq
  exact ⟨b',by show b'∈usL (grJ S.bs S.E n);rw [k2];exact q1,q2⟩⟩
theorem ownA_at (hi:A.length=i) (b:Blk) (C:List Blk) (who:Nat):ownA (A++b::C) i who=A++⟨b.off,b.s,b.u,who,b.n⟩::C∧ownL (A++b::C) L i who=Ydl (lstB L b) who b.off:=by
 have e:=Ycq (C:=C) (x:=b) hi
 unfold ownA ownL gO gS gU gN
 rw [e]
 subst hi
 rw [List.take_left,show A++b::C=(A++[b])++C by simp,show A.length+1=(A++[b]).length by simp,List.drop_left]
 exact ⟨rfl,rfl⟩
theorem HM.owned (h:HM K S) (hf:fstN (pF p) S.bs=some i) (ho:gW S.bs i≠0) {who:Nat} (h8:who≤8):HM K (mOwn S i who):=by
 obtain ⟨A,b,C,e,hi,hu,hp,hb⟩:=h.hs.q.found hf
 have hbo:b.o≠0:=by rw [← hb];exact ho
 have hus:usL S.bs=usL A++b::usL C:=by rw [e,Yb2 hu]
 have hq:=h.hs
 rw [e] at hq
 have hbk:=hq.q.is b (by simp)
 obtain ⟨e1,e2⟩:=ownA_at (L:=S.L) hi b C who
 have hs':HS S.E (ownA S.bs i who) (ownL S.bs S.L i who):=by
  rw [e,e1,e2]
  exact ⟨hq.q.sub (b':=⟨b.off,b.s,b.u,who,b.n⟩) hu rfl rfl hu (hbk.us hu).1 rfl h8,mg_sub hq.mg rfl⟩
 have hus':usL (ownA S.bs i who)=usL A++⟨b.off,b.s,b.u,who,b.n⟩::usL C:=by rw [e,e1,Yb2 (by exact hu)]
 refine ⟨hs',fun x hx=>?_,h.dn,h.nn,h.no,h.nk,h.np,fun q hq'=>?_⟩
 ·replace hx:x∈usL A++(⟨b.off,b.s,b.u,who,b.n⟩:Blk)::usL C:=by rw [← hus'];exact hx
  show (datL S.ds (x.off+32)).length=_
  rcases Yba.1 hx with r|r
  ·rw [r];exact h.dl b (by rw [hus];simp)
  ·exact h.dl x (by rw [hus];exact Yba.2 (.inr r))
 ·obtain ⟨b',q1,q2,q3⟩:=h.nu q hq'
  refine ⟨b',?_,q2,q3⟩
  show b'∈usL (ownA S.bs i who)
  rw [hus']
  rw [hus] at q1
  rcases Yba.1 q1 with r|r
  ·rw [r] at q2;exact absurd q2 hbo
  ·exact Yba.2 (.inr r)
theorem HM.worded (h:HM K S) (p k v:Nat):HM (K+1) { S with ds:=putL S.ds p ((datL S.ds p).set k v) }:=by
 refine ⟨h.hs,fun x hx=>?_,Nat.le_trans (putL_len _ _ _) (by have:=h.dn;omega),h.nn,h.no,h.nk,h.np,h.nu⟩
 show (datL (putL S.ds p ((datL S.ds p).set k v)) (x.off+32)).length=_
 have:=h.dl x hx
 rw [Ycr]
 split
 ·rename_i e
  rw [List.length_set,← e];exact this
 ·exact this
theorem HM.unnamed (h:HM K S) {A C:List (ByteArray × Nat)} {q:ByteArray × Nat} (e:S.nm=A++q::C):HM K (Yed { S with nm:=A++C } q.2):=by
 have hin:∀ x,x∈S.nm↔x=q∨x∈A++C:=fun x=>by rw [e];exact Yba
 have hsub:(A++C).Sublist S.nm:=by rw [e];simp
 have h1:HM K { S with nm:=A++C }:=⟨h.hs,h.dl,h.dn,Nat.le_trans hsub.length_le h.nn,fun x hx=>h.no x ((hin x).2 (.inr hx)),h.nk.sublist (hsub.map _),h.np.sublist (hsub.map _),fun x hx=>h.nu x ((hin x).2 (.inr hx))⟩
 obtain ⟨b,k1,k2,k3⟩:=h.nu q ((hin q).2 (.inl rfl))
 obtain ⟨X,Y,e2,hu⟩:=us_split k1
 have hf:fstN (pF q.2) S.bs=some X.length:=by
  have:=h.hs.q
  rw [e2] at this ⊢
  rw [← k3];exact this.find hu
 refine h1.freed (i:=X.length) hf fun x hx=>?_
 have hx:x∈A++C:=hx
 have hnp:=h.np
 rw [e,List.map_append,List.map_cons] at hnp
 obtain ⟨n1,n2,n3⟩:=List.nodup_append.1 hnp
 rcases List.mem_append.1 hx with r|r
 ·exact n3 _ (List.mem_map_of_mem r) _ (by simp)
 ·intro e3
  exact (List.nodup_cons.1 n2).1 (by rw [← e3];exact List.mem_map_of_mem r)
theorem killL_is:∀ (xs:List Nat) {S:MS},HM K S→xs.Nodup→(∀ x∈xs,∃ b∈usL S.bs,b.off=x∧b.o≠0)→HM K (killL S xs)
 | [],S,h,_,_=>h
 | x::r,S,h,hn,hx=>by
  obtain ⟨b,k1,k2,k3⟩:=hx x (by simp)
  obtain ⟨A,C,e,hu⟩:=us_split k1
  have hq:=h.hs.q
  have hf:fstN (pF (x+32)) S.bs=some A.length:=by
   rw [e] at hq ⊢
   rw [← k2];exact hq.find hu
  have h1:HM K (Yed S (x+32)):=h.freed hf fun q hq' e1=>by
   obtain ⟨b',q1,q2,q3⟩:=h.nu q hq'
   have:b'=b:=hq.one (Yb3.1 q1).1 (Yb3.1 k1).1 (by omega)
   rw [this] at q2
   exact k3 q2
  refine killL_is r h1 (List.nodup_cons.1 hn).2 fun y hy=>?_
  obtain ⟨b',q1,q2,q3⟩:=hx y (by simp [hy])
  refine ⟨b',?_,q2,q3⟩
  have hus':usL (frB S.bs (x+32))=usL A++usL C:=by
   rw [e] at hf ⊢
   rw [(frB_at (L:=S.L) rfl hf).1,Ydf,Yd8 rfl]
  show b'∈usL (frB S.bs (x+32))
  rw [hus']
  rw [e,Yb2 hu] at q1
  rcases Yba.1 q1 with g|g
  ·rw [g] at q2
   exact absurd hy (by rw [← q2,k2];exact (List.nodup_cons.1 hn).1)
  ·exact g
theorem HM.kill (h:HM K S) {c:Nat} (hc:c<8):HM K (killM S c):=by
 obtain ⟨h1,h2⟩:=h.hs.q.ls c hc
 refine (killL_is (S.L c) h h1 fun x hx=>?_).live _
 obtain ⟨b,k1,k2,k3⟩:=(h2 x).1 hx
 exact ⟨b,k1,k2,by omega⟩
def markF (xs:List Nat) (b:Blk):Blk:=if b.u=true∧b.off∈xs then Ya4 b.off b.s else b
theorem killL_bs:∀ (xs:List Nat) {S:MS} {Z:List Blk},S.bs=Ybs Z→HQ S.E Z S.L→xs.Nodup→(∀ x∈xs,∃ b∈usL Z,b.off=x)→(killL S xs).bs=Ybs (Z.map (markF xs))
 | [],S,Z,e,h,_,_=>by
  show S.bs=_
  rw [e]
  congr 1
  exact (List.map_id'' (fun b=>by unfold markF;simp) Z).symm
 | x::r,S,Z,e,h,hn,hx=>by
  obtain ⟨b,k1,k2⟩:=hx x (by simp)
  obtain ⟨A,C,rfl,hu⟩:=us_split k1
  have hj:=h.join
  rw [join_part hu] at e hj
  have hf:fstN (pF (x+32)) S.bs=some (Ybs A).length:=by rw [e,← k2];exact hj.q.find hu
  have hfb:frB S.bs (x+32)=Ybs (A++Ya4 b.off b.s::C)∧frL S.bs S.L (x+32)=lstB S.L b:=by
   rw [e] at hf ⊢
   obtain ⟨e1,e2⟩:=frB_at (L:=S.L) rfl hf
   refine ⟨?_,e2⟩
   rw [e1]
   have:=join_mid (A:=A) (C:=C) [Ya4 b.off b.s]
   simpa using this
  have h1:HQ (Yed S (x+32)).E (A++Ya4 b.off b.s::C) (Yed S (x+32)).L:=by
   show HQ S.E _ (frL S.bs S.L (x+32))
   rw [hfb.2];exact h.freed hu
  have ih:=killL_bs r (S:=Yed S (x+32)) hfb.1 h1 (List.nodup_cons.1 hn).2 fun y hy=>by
   obtain ⟨b',q1,q2⟩:=hx y (by simp [hy])
   refine ⟨b',?_,q2⟩
   rw [Yb2 hu] at q1
   rw [Yd8 rfl]
   rcases Yba.1 q1 with g|g
   ·rw [g] at q2
    exact absurd hy (by rw [← q2,k2];exact (List.nodup_cons.1 hn).1)
   ·exact g
  show (killL (Yed S (x+32)) r).bs=_
  rw [ih]
  congr 1
  obtain ⟨g1,g2⟩:=up_amid h.ch.up
  have hoth:∀ y:Blk,y.off≠x→markF r y=markF (x::r) y:=fun y hy=>by
   unfold markF
   simp only [List.mem_cons]
   by_cases hq:y.u=true∧y.off∈r
   ·rw [if_pos hq,if_pos ⟨hq.1,.inr hq.2⟩]
   ·rw [if_neg hq,if_neg fun k=>hq ⟨k.1,k.2.resolve_left hy⟩]
  rw [List.map_append,List.map_append,List.map_cons,List.map_cons]
  congr 1
  ·exact List.map_congr_left fun y hy=>hoth y (by have:=g1 y hy;omega)
  ·congr 1
   ·unfold markF
    rw [if_neg (by intro k;cases k.1),if_pos ⟨hu,by simp [k2]⟩]
   ·exact List.map_congr_left fun y hy=>hoth y (by have:=g2 y hy;omega)
theorem killL_ds:∀ (xs:List Nat) (S:MS) (q:Nat),(∀ x∈xs,q≠x+32)→datL (killL S xs).ds q=datL S.ds q
 | [],S,q,_=>rfl
 | x::r,S,q,h=>by
  show datL (killL (Yed S (x+32)) r).ds q=_
  rw [killL_ds r _ q fun y hy=>h y (by simp [hy])]
  show datL (drpL S.ds (x+32)) q=_
  rw [Yc8,if_neg (h x (by simp))]
theorem killL_rest:∀ (xs:List Nat) (S:MS),(killL S xs).nm=S.nm∧(killL S xs).E=S.E∧(killL S xs).lv=S.lv
 | [],S=>⟨rfl,rfl,rfl⟩
 | x::r,S=>by
  obtain ⟨h1,h2,h3⟩:=killL_rest r (Yed S (x+32))
  exact ⟨h1,h2,h3⟩
end
end
section
def owL (c:Nat) (k:Int):List Int:=if pubK k=true then [0,(c:Int)+1] else [(c:Int)+1]
def blkK (k:Int):Prop:=k=4∨k=5∨k=6∨k=7∨k=11∨k=12
def nameK (k:Int):Prop:=k=8∨k=9∨k=10
inductive Yb5 (all:Nat) (S:MS) (c:Nat) (x:OpM):MS→Nat→Nat→Nat→Prop
 | busy:x.kind=14→S.L c≠[]→Yb5 all S c x S 11 0 0
 | detach:x.kind=14→S.L c=[]→Yb5 all S c x { S with lv:=oth S.lv c false } 0 0 0
 | alloc:x.kind=1→Yb5 all S c x (mTk S (c+1) x.n 16) (Yax S.bs x.n 16) (mtP S.bs x.n 16) 0
 | aligned:x.kind=2→Yb5 all S c x (mTk S (c+1) x.n x.a) (Yax S.bs x.n x.a) (mtP S.bs x.n x.a) 0
 | callocNo:x.kind=3→18446744073709551616≤x.n*x.a→Yb5 all S c x S 2 0 0
 | calloc:x.kind=3→x.n*x.a<18446744073709551616→Yb5 all S c x (mTk S (c+1) (x.n*x.a) 16) (Yax S.bs (x.n*x.a) 16) (mtP S.bs (x.n*x.a) 16) 0
 | bad:blkK x.kind→Ybj S.bs x.off (owL c x.kind)≠0→Yb5 all S c x S (Ybj S.bs x.off (owL c x.kind)) 0 0
 | reallocNo:x.kind=4→Ybj S.bs x.off (owL c x.kind)=0→rzE S.bs x.off x.n≠0→Yb5 all S c x S (rzE S.bs x.off x.n) 0 0
 | realloc:x.kind=4→Ybj S.bs x.off (owL c x.kind)=0→rzE S.bs x.off x.n=0→Yb5 all S c x (rzM S x.off x.n) 0 (rzP S.bs x.off x.n) 0
 | freeNo:x.kind=5→Ybj S.bs x.off (owL c x.kind)=0→(∃ q∈S.nm,q.2=x.off)→Yb5 all S c x S 7 0 0
 | free:x.kind=5→Ybj S.bs x.off (owL c x.kind)=0→(∀ q∈S.nm,q.2≠x.off)→Yb5 all S c x (Yed S x.off) 0 0 0
 | out:x.kind=6∨x.kind=7→Ybj S.bs x.off (owL c x.kind)=0→(datL S.ds x.off).length≤x.i→Yb5 all S c x S 1 0 0
 | read:x.kind=7→Ybj S.bs x.off (owL c x.kind)=0→x.i<(datL S.ds x.off).length→Yb5 all S c x S 0 0 ((datL S.ds x.off).getD x.i 0)
 | write:x.kind=6→Ybj S.bs x.off (owL c x.kind)=0→x.i<(datL S.ds x.off).length→Yb5 all S c x { S with ds:=putL S.ds x.off ((datL S.ds x.off).set x.i x.v) } 0 0 0
 | publish {i:Nat}:x.kind=11→Ybj S.bs x.off (owL c x.kind)=0→fstN (pF x.off) S.bs=some i→Yb5 all S c x (mOwn S i 0) 0 0 0
 | giveArg:x.kind=12→Ybj S.bs x.off (owL c x.kind)=0→¬ (0≤x.to∧x.to<8)→Yb5 all S c x S 1 0 0
 | giveNone {k:Nat}:x.kind=12→Ybj S.bs x.off (owL c x.kind)=0→k<8→x.to=(k:Int)→S.lv k=false→Yb5 all S c x S 6 0 0
 | give {i k:Nat}:x.kind=12→Ybj S.bs x.off (owL c x.kind)=0→k<8→x.to=(k:Int)→S.lv k=true→fstN (pF x.off) S.bs=some i→Yb5 all S c x (mOwn S i (k+1)) 0 0 0
 | growNo:x.kind=13→grF all S.E x.n≠0→Yb5 all S c x S (grF all S.E x.n) 0 0
 | grow:x.kind=13→grF all S.E x.n=0→Yb5 all S c x { S with E:=S.E+x.n,bs:=grJ S.bs S.E x.n } 0 0 0
 | nameBad:nameK x.kind→¬ nmOk x.name→Yb5 all S c x S 8 0 0
 | nameNone:x.kind=9∨x.kind=10→nmOk x.name→(∀ q∈S.nm,q.1≠x.name)→Yb5 all S c x S 6 0 0
 | find {A C:List (ByteArray × Nat)} {p:Nat}:x.kind=9→nmOk x.name→S.nm=A++(x.name,p)::C→Yb5 all S c x S 0 p 0
 | destroy {A C:List (ByteArray × Nat)} {p:Nat}:x.kind=10→nmOk x.name→S.nm=A++(x.name,p)::C→Yb5 all S c x (Yed { S with nm:=A++C } p) 0 0 0
 | consThere {A C:List (ByteArray × Nat)} {p:Nat}:x.kind=8→nmOk x.name→S.nm=A++(x.name,p)::C→Yb5 all S c x S 7 0 0
 | consFull:x.kind=8→nmOk x.name→(∀ q∈S.nm,q.1≠x.name)→16≤S.nm.length→Yb5 all S c x S 9 0 0
 | consNo:x.kind=8→nmOk x.name→(∀ q∈S.nm,q.1≠x.name)→S.nm.length<16→Yax S.bs x.n 16≠0→Yb5 all S c x S (Yax S.bs x.n 16) 0 0
 | cons:x.kind=8→nmOk x.name→(∀ q∈S.nm,q.1≠x.name)→S.nm.length<16→Yax S.bs x.n 16=0→Yb5 all S c x { mTk S 0 x.n 16 with nm:=S.nm++[(x.name,tkP S.bs x.n 16)] } 0 (tkP S.bs x.n 16) 0
inductive Ybz (all:Nat) (S:MS) (c:Int) (x:OpM):MS→Nat→Nat→Nat→Prop
 | arg:(x.kind<1∨15<x.kind∨c<0∨7<c)→Ybz all S c x S 1 0 0
 | client {k:Nat}:c=(k:Int)→k<8→1≤x.kind→x.kind<15→S.lv k=false→Ybz all S c x S 10 0 0
 | there {k:Nat}:c=(k:Int)→k<8→x.kind=15→S.lv k=true→Ybz all S c x S 7 0 0
 | attach {k:Nat}:c=(k:Int)→k<8→x.kind=15→S.lv k=false→Ybz all S c x { S with lv:=oth S.lv k true } 0 0 0
 | act {k:Nat} {S':MS} {e p v:Nat}:c=(k:Int)→k<8→1≤x.kind→x.kind<15→S.lv k=true→Yb5 all S k x S' e p v→Ybz all S c x S' e p v
section
variable {all K:Nat} {S S':MS} {c:Nat} {x:OpM} {e p v i:Nat}
theorem Yck {ow:List Int} (h:Ybj S.bs p ow=0):∃ i,fstN (pF p) S.bs=some i∧gW S.bs i∈ow:=by
 unfold Ybj at h
 cases hf:fstN (pF p) S.bs with
 | none=>rw [hf] at h;cases h
 | some i =>
  rw [hf] at h
  simp only at h
  refine ⟨i,rfl,?_⟩
  by_cases hm:(S.bs.getD i default).o∈ow
  ·exact hm
  ·rw [if_neg hm] at h;cases h
theorem name_at (s:ByteArray) (nm:List (ByteArray × Nat)):(∀ q∈nm,q.1≠s)∨∃ A C p,nm=A++(s,p)::C:=by
 by_cases h:∃ q∈nm,q.1=s
 ·obtain ⟨q,hq,e⟩:=h
  obtain ⟨A,C,h⟩:=List.append_of_mem hq
  exact .inr ⟨A,C,q.2,by rw [h,← e]⟩
 ·exact .inl fun q hq e=>h ⟨q,hq,e⟩
theorem act_total (all:Nat) (S:MS) (c:Nat) (x:OpM) (h1:1≤x.kind) (h2:x.kind<15):∃ S' e p v,Yb5 all S c x S' e p v:=by
 by_cases hb:blkK x.kind
 ·by_cases hu:Ybj S.bs x.off (owL c x.kind)=0
  ·obtain ⟨i,hi,_⟩:=Yck hu
   rcases hb with k|k|k|k|k|k
   ·by_cases hz:rzE S.bs x.off x.n=0
    ·exact ⟨_,_,_,_,.realloc k hu hz⟩
    ·exact ⟨_,_,_,_,.reallocNo k hu hz⟩
   ·by_cases hn:∃ q∈S.nm,q.2=x.off
    ·exact ⟨_,_,_,_,.freeNo k hu hn⟩
    ·exact ⟨_,_,_,_,.free k hu fun q hq e=>hn ⟨q,hq,e⟩⟩
   ·by_cases hl:x.i<(datL S.ds x.off).length
    ·exact ⟨_,_,_,_,.write k hu hl⟩
    ·exact ⟨_,_,_,_,.out (.inl k) hu (by omega)⟩
   ·by_cases hl:x.i<(datL S.ds x.off).length
    ·exact ⟨_,_,_,_,.read k hu hl⟩
    ·exact ⟨_,_,_,_,.out (.inr k) hu (by omega)⟩
   ·exact ⟨_,_,_,_,.publish k hu hi⟩
   ·by_cases ht:0≤x.to∧x.to<8
    ·have e:x.to=(x.to.toNat:Int):=by omega
     cases hl:S.lv x.to.toNat with
     | true=>exact ⟨_,_,_,_,.give k hu (by omega) e hl hi⟩
     | false=>exact ⟨_,_,_,_,.giveNone k hu (by omega) e hl⟩
    ·exact ⟨_,_,_,_,.giveArg k hu ht⟩
  ·exact ⟨_,_,_,_,.bad hb hu⟩
 ·by_cases hn:nameK x.kind
  ·by_cases ho:nmOk x.name
   ·rcases name_at x.name S.nm with h|⟨A,C,p,h⟩
    ·rcases hn with k|k|k
     ·by_cases hf:16≤S.nm.length
      ·exact ⟨_,_,_,_,.consFull k ho h hf⟩
      ·by_cases ht:Yax S.bs x.n 16=0
       ·exact ⟨_,_,_,_,.cons k ho h (by omega) ht⟩
       ·exact ⟨_,_,_,_,.consNo k ho h (by omega) ht⟩
     ·exact ⟨_,_,_,_,.nameNone (.inl k) ho h⟩
     ·exact ⟨_,_,_,_,.nameNone (.inr k) ho h⟩
    ·rcases hn with k|k|k
     ·exact ⟨_,_,_,_,.consThere k ho h⟩
     ·exact ⟨_,_,_,_,.find k ho h⟩
     ·exact ⟨_,_,_,_,.destroy k ho h⟩
   ·exact ⟨_,_,_,_,.nameBad hn ho⟩
  ·unfold blkK nameK at *
   rcases (show x.kind=1∨x.kind=2∨x.kind=3∨x.kind=13∨x.kind=14 by omega) with k|k|k|k|k
   ·exact ⟨_,_,_,_,.alloc k⟩
   ·exact ⟨_,_,_,_,.aligned k⟩
   ·by_cases hl:x.n*x.a<18446744073709551616
    ·exact ⟨_,_,_,_,.calloc k hl⟩
    ·exact ⟨_,_,_,_,.callocNo k (by omega)⟩
   ·by_cases hg:grF all S.E x.n=0
    ·exact ⟨_,_,_,_,.grow k hg⟩
    ·exact ⟨_,_,_,_,.growNo k hg⟩
   ·by_cases hL:S.L c=[]
    ·exact ⟨_,_,_,_,.detach k hL⟩
    ·exact ⟨_,_,_,_,.busy k hL⟩
theorem step_total (all:Nat) (S:MS) (c:Int) (x:OpM):∃ S' e p v,Ybz all S c x S' e p v:=by
 by_cases h:x.kind<1∨15<x.kind∨c<0∨7<c
 ·exact ⟨_,_,_,_,.arg h⟩
 ·have hc:c=(c.toNat:Int):=by omega
  have h8:c.toNat<8:=by omega
  cases hl:S.lv c.toNat with
  | false =>
   by_cases hk:x.kind=15
   ·exact ⟨_,_,_,_,.attach hc h8 hk hl⟩
   ·exact ⟨_,_,_,_,.client hc h8 (by omega) (by omega) hl⟩
  | true =>
   by_cases hk:x.kind=15
   ·exact ⟨_,_,_,_,.there hc h8 hk hl⟩
   ·obtain ⟨S',e,p,v,ha⟩:=act_total all S c.toNat x (by omega) (by omega)
    exact ⟨_,_,_,_,.act hc h8 (by omega) (by omega) hl ha⟩
theorem own_not {k:Int} (h:gW S.bs i∈owL c k) (hk:pubK k=false):gW S.bs i=(c:Int)+1:=by
 unfold owL at h
 rw [if_neg (by rw [hk];decide)] at h
 exact List.mem_singleton.1 h
theorem Yb5.is (h:Yb5 all S c x S' e p v) (hM:HM K S) (hc:c<8) (hx:OpOk x) (hall:all≤4800):HM (K+1) S':=by
 have h0:=hM.mono (Nat.le_succ K)
 cases h with
 | busy=>exact h0
 | detach=>exact h0.live _
 | alloc=>exact hM.take (by omega) _ _
 | aligned=>exact hM.take (by omega) _ _
 | callocNo=>exact h0
 | calloc=>exact hM.take (by omega) _ _
 | bad=>exact h0
 | reallocNo=>exact h0
 | realloc k hu hz =>
  obtain ⟨i,hi,hw⟩:=Yck hu
  have:=own_not hw (by rw [k];decide)
  exact hM.resized hi (by omega) hx.n hz
 | freeNo=>exact h0
 | free k hu hn =>
  obtain ⟨i,hi,hw⟩:=Yck hu
  exact h0.freed hi hn
 | out=>exact h0
 | read=>exact h0
 | write=>exact hM.worded _ _ _
 | publish k hu hi =>
  obtain ⟨i',hi',hw⟩:=Yck hu
  have e:=Option.some.inj (hi'.symm.trans hi)
  subst e
  have:=own_not hw (by rw [k];decide)
  exact h0.owned hi (by omega) (by omega)
 | giveArg=>exact h0
 | giveNone=>exact h0
 | give k hu hk ht hl hi =>
  obtain ⟨i',hi',hw⟩:=Yck hu
  have e:=Option.some.inj (hi'.symm.trans hi)
  subst e
  have:=own_not hw (by rw [k];decide)
  exact h0.owned hi (by omega) (by omega)
 | growNo=>exact h0
 | grow k hg =>
  unfold grF at hg
  by_cases h1:x.n % 16≠0∨x.n<48
  ·rw [if_pos h1] at hg;cases hg
  ·rw [if_neg h1] at hg
   by_cases h2:all<S.E+x.n
   ·rw [if_pos h2] at hg;cases hg
   ·exact h0.grown (by omega) (by omega) (by omega)
 | nameBad=>exact h0
 | nameNone=>exact h0
 | find=>exact h0
 | destroy k ho hnm=>exact h0.unnamed (q:=(x.name,_)) hnm
 | consThere=>exact h0
 | consFull=>exact h0
 | consNo=>exact h0
 | cons k ho hn hl hf=>exact hM.named hf ho hn hl
theorem Ybz.is {c:Int} (h:Ybz all S c x S' e p v) (hM:HM K S) (hx:OpOk x) (hall:all≤4800):HM (K+1) S':=by
 have h0:=hM.mono (Nat.le_succ K)
 cases h with
 | arg=>exact h0
 | client=>exact h0
 | there=>exact h0
 | attach=>exact h0.live _
 | act h1 h2 h3 h4 h5 h6=>exact h6.is hM h2 hx hall
end
end
end Go.Proofs.YtfhiljglfhekdaaGreat
