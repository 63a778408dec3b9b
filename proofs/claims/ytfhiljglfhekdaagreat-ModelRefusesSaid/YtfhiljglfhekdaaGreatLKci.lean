/-
  Texts of one layer, one behind the other: memory, contracts of the functions, and what follows of them.
  Conditions: as each theorem says.
-/
import Derived.Test.YtfhiljglfhekdaaGreatLKch
import Derived.Test.YtfhiljglfhekdaaGreatLKcg
import Derived.Test.YtfhiljglfhekdaaGreatLMpb
import Derived.Test.YtfhiljglfhekdaaGreatLMob
import Derived.Laws.Rows
set_option linter.unusedVariables false
set_option linter.unusedSimpArgs false
set_option maxRecDepth 100000
namespace Go.Proofs.YtfhiljglfhekdaaGreat
open Go.RowKit
section
def KB.dataed (y:KB) (d:List Nat):KB:=⟨y.b,y.a,y.m,y.c,d⟩
def cpK (l:List KB) (i1:Nat) (d:List Nat):List KB:=l.take i1++(l.getD i1 default).dataed (ovL (l.getD i1 default).d d)::l.drop (i1+1)
def mvK (l:List KB) (i1 i2:Nat) (d:List Nat):List KB:=jnL ((cpK l i1 d).take i2++((cpK l i1 d).getD i2 default).free::(cpK l i1 d).drop (i2+1))
section
variable {w w' w1 w2:World} {F F':Nat→Prop} {P all E c i M p N m yo ys ow yn ym yc i1 i2:Nat} {yu:Bool} {ya:Option Addr} {yd d':List Nat} {ns:List (ByteArray × Nat)} {lv:Nat→Bool} {l A C:List KB} {y:KB} {x:OpM}
theorem MdR.mono (h:MdR w w' F P all l ns lv) (hF:∀ g,F g→F' g) (hlt:∀ g,F' g→g<w.heap.size):MdR w w' F' P all l ns lv :=
 ⟨h.1.mono (fun g hg=>by rcases hg with h|h;exact .inl (hF g h);exact .inr h) (Ycp hlt h.2.size),turned_mono h.2 (fun i _ hi=>hF i hi)⟩
theorem Md.words (h:Md w F P all (A++y::C) ns lv) (hN:(kv y).ownBlock=some N) (ho:OwnW w' 0 (kv y) d') (hg:w.grownBy w' (some N)):MdR w w' F P all (A++y.dataed d'::C) ns lv:=by
 obtain ⟨g,cap,f,M,hst,hk2,hPg,hFg,hFM,hmp⟩:=h.ex
 have hy:=h.own y (by simp)
 obtain ⟨cur,hc⟩:=Ycn hy hN
 have hMN:some M≠some N:=fun e=>by injection e with e;exact hmp.ne hc e
 have hPN:P≠N:=fun e=>Ybu hst.box hc (by decide) e
 have hFN:F N:=h.dF N (dats_mem.2 ⟨y,by simp,hN⟩)
 obtain ⟨m,hm⟩:∃ m,(A++y::C).length=m:=⟨_,rfl⟩
 have hl:(A++y.dataed d'::C).length=m:=by rw [← hm];simp
 rw [hm] at hst hk2
 have hk3:Ycb (updK f A.length (y.dataed d')) m=A++y.dataed d'::C:=(Ybn hk2 rfl (y.dataed d')).2.2
 have hfA:=(Ybn hk2 rfl (y.dataed d')).1
 have hdd:dats (A++y.dataed d'::C)=dats (A++y::C):=dats_keep rfl
 have hst2:StB w' P g cap m all (updK f A.length (y.dataed d')) (.map (some M)) lv:=by
  refine ⟨(hg.block _ (lt_of_block hst.box) (fun e=>hPN (by injection e))).trans hst.box,?_⟩
  have hr:=hst.row.other hc (by decide) hg
  obtain ⟨cur2,q1,q2,q3⟩:=hr.ex
  refine ⟨⟨cur2,q1,q2,fun j hj i' hi'=>?_⟩,hr.le,hr.cap⟩
  by_cases e:j=A.length
  ·subst e;rw [Yby,q3 _ hj _ hi',hfA];rfl
  ·rw [Ydu e];exact q3 j hj i' hi'
 rw [← hl] at hst2 hk3
 refine ⟨⟨⟨g,cap,_,M,hst2,hk3,hPg,.inl hFg,.inl hFM,hmp.kept hg hMN⟩,fun z hz=>?_,by rw [hdd];exact h.nod,fun q hq=>by rw [hdd] at hq;exact .inl (h.dF q hq),fun z hz hzu=>?_,.inl h.pF,Ycp h.lt hg.size⟩,Ybm hg (fun q e=>by injection e with e;rw [← e];exact hFN)⟩
 ·have hap:=dats_apart h.nod hN
  rcases List.mem_append.1 hz with h1|h1
  ·refine World.ownsRow.kept (h.own z (by simp [h1])) hg ?_
   by_cases e1:(kv z).ownBlock=none
   ·exact .inl e1
   ·exact .inr (hap z (.inl h1))
  ·rcases List.mem_cons.1 h1 with rfl|h2
   ·exact ho
   ·refine World.ownsRow.kept (h.own z (by simp [h2])) hg ?_
    by_cases e1:(kv z).ownBlock=none
    ·exact .inl e1
    ·exact .inr (hap z (.inr h2))
 ·rcases List.mem_append.1 hz with h1|h1
  ·exact h.free z (by simp [h1]) hzu
  ·rcases List.mem_cons.1 h1 with rfl|h2
   ·have:=h.free y (by simp) hzu
    obtain ⟨b1,_,_,_⟩:=this
    unfold kv at hN
    rw [b1] at hN
    cases hN
   ·exact h.free z (by simp [h2]) hzu
set_option maxHeartbeats 2000000 in
theorem mmove_not (h:Md w F P all l ns lv) (hs:Sane E l) (hl:l=A++⟨⟨yo,ys,yu,(ow:Int),yn⟩,ya,ym,yc,yd⟩::C) (hA:A.length=i) (hmn:m<18446744073709551616) (hft:Yax (l.map KB.b) m 16≠0) :
  Calls Tryz.prog 90 #[.pointer (some ⟨P,0,none⟩),.int .i64 i,.int .u64 m] w fun e w'=>e=.returned (.agg #[.int .i64 (Yax (l.map KB.b) m 16:Nat),.int .u64 (mtP (l.map KB.b) m 16:Nat),.int .u64 0])∧MdR w w' F P all l ns lv:=by
 obtain ⟨W0,hW0⟩:∃ W0,w.alloc (.cells #[.int .i64 0,.int .u64 0,.int .u64 0] 46)=W0:=⟨_,rfl⟩
 have hrb:=Yab w (.cells #[.int .i64 0,.int .u64 0,.int .u64 0] 46)
 have hga:=World.grownBy_alloc w (.cells #[.int .i64 0,.int .u64 0,.int .u64 0] 46) none
 rw [hW0] at hrb hga
 have hsz0:W0.heap.size=w.heap.size+1:=by rw [← hW0];simp
 obtain ⟨W1,hW1⟩:∃ W1,W0.alloc (.cells #[.int .u64 (yo:Nat),.int .u64 (ys:Nat),.bool yu,.int .i64 (ow:Int),.int .u64 (yn:Nat),.slice ya ym yc] 53)=W1:=⟨_,rfl⟩
 have hob:=Yab W0 (.cells #[.int .u64 (yo:Nat),.int .u64 (ys:Nat),.bool yu,.int .i64 (ow:Int),.int .u64 (yn:Nat),.slice ya ym yc] 53)
 have hgb:=World.grownBy_alloc W0 (.cells #[.int .u64 (yo:Nat),.int .u64 (ys:Nat),.bool yu,.int .i64 (ow:Int),.int .u64 (yn:Nat),.slice ya ym yc] 53) none
 rw [hW1] at hob hgb
 rw [hsz0] at hob
 have hg1:=Yaa hga hgb
 have hrb1:=(hgb.block _ (lt_of_block hrb) (by simp)).trans hrb
 have hM1:=h.later hg1
 obtain ⟨g,cap,f,M,hst,hk,hPg,hFg,hFM,hmp⟩:=(h.later hga).ex
 obtain ⟨nl,hnl⟩:∃ nl,l.length=nl:=⟨_,rfl⟩
 rw [hnl] at hst hk
 have hk2:=hk
 rw [hl] at hk2
 obtain ⟨hfi,hin,_⟩:=Ybn hk2 hA ⟨⟨yo,ys,yu,(ow:Int),yn⟩,ya,ym,yc,yd⟩
 have hin':(i:Int)<(nl:Int):=by omega
 have d1:=hst.cells.2.1
 obtain ⟨c0,c1,c2,c3,c4,c5⟩:=hst.row.cells hin
 rw [hfi] at c0 c1 c2 c3 c4 c5
 obtain ⟨b0,b1,b2,b3,b4,b5⟩:=Ya5 hob
 have HNF:Hid (¬ F w.heap.size):=Lib.hid (fun hF=>by have:=h.lt _ hF;omega)
 have HNB:Hid (¬ F (w.heap.size+1)):=Lib.hid (fun hF=>by have:=h.lt _ hF;omega)
 have HLW:=Lib.hid h.lt
 have HG1:=Lib.hid hg1
 have HL1:Hid (∀ g,F g→g<W1.heap.size):=Lib.hid (fun g hg=>Nat.lt_of_lt_of_le (h.lt g hg) hg1.size)
 have HRB:=Lib.hid hrb1
 have HOB:=Lib.hid hob
 have htk:=Yea hM1 hs.lay hs.fz hs.un (ow:=ow) hmn (show 16<18446744073709551616 by decide)
 obtain ⟨pq,hpq⟩:∃ pq,mtP (l.map KB.b) m 16=pq:=⟨_,rfl⟩
 obtain ⟨er,her⟩:∃ er,Yax (l.map KB.b) m 16=er:=⟨_,rfl⟩
 have htR:∀ N,tkR l ow m 16 N=l:=fun N=>if_neg hft
 simp only [her,hpq,htR] at htk ⊢
 replace htk:Calls Tryz.prog 86 #[.pointer (some ⟨P,0,none⟩),.int .i64 (ow:Int),.int .u64 (m:Nat),.int .u64 16] W1 fun e w'=>e=.returned (.agg #[.int .i64 (er:Nat),.int .u64 (pq:Nat),.int .u64 0])∧∃ N:Nat,MdR W1 w' F P all l ns lv:=htk
 rw [her] at hft
 have h1:¬ ((er:Int)=0):=by omega
 have h2:((er:Int) != 0)=true:=by simp;omega
 clear h hs hl hk hk2 hst hmp hfi hM1 hrb hob hrb1 hga hgb hg1 hnl hpq her htR hft
 go_enter Tryz.func90,Tryz.ntmps90
 go_wp2_with (go_at_call 86;go_must ((with_reducible refine htk.mono ?_);rintro e w4 ⟨rfl,N,h4⟩;have hres4:=Yab w4 (.cells #[.int .i64 (er:Nat),.int .u64 (pq:Nat),.int .u64 0] 46);have hR8:=h4.later (World.grownBy_alloc w4 (.cells #[.int .i64 (er:Nat),.int .u64 (pq:Nat),.int .u64 0] 46) none);obtain ⟨u0,u1,u2⟩:=Yaf hres4;have hbx3:=Yay hR8.2 HRB.out HNF.out;obtain ⟨y0,y1,y2⟩:=Yaf hbx3;obtain ⟨z0,z1,z2⟩:=Yak hbx3))
 have q:=Yaz hbx3 (x':=.int .i64 (er:Nat)) (y':=.int .u64 (pq:Nat)) (z':=.int .u64 0)
 obtain ⟨k0,k1,k2⟩:=Yaf q
 refine bodyPost_ret (v:=.agg #[.int .i64 (er:Nat),.int .u64 (pq:Nat),.int .u64 0]) (by simp [results,Tryz.results90,go_sem,k0,k1,k2]) rfl ?_
 exact ⟨rfl,hR8.boxed HG1.out HLW.out (Nat.le_refl _) hbx3 (by decide) (by decide) (by decide) (Yaa (Yac _ _ _ _) (Yaa (Yac _ _ _ _) (Yac _ _ _ _)))⟩
set_option maxHeartbeats 4000000 in
theorem mmove_ok (h:Md w F P all l ns lv) (hs:Sane E l) (hl:l=A++⟨⟨yo,ys,yu,(ow:Int),yn⟩,ya,ym,yc,yd⟩::C) (hA:A.length=i) (hmn:m<18446744073709551616) (hft:Yax (l.map KB.b) m 16=0) (hL1:∀ N,Lay E (tkR l ow m 16 N)) (h1:∀ N,fstN (pF (mtP (l.map KB.b) m 16)) ((tkR l ow m 16 N).map KB.b)=some i1) (h2:∀ N,fstN (pF (yo+32)) ((tkR l ow m 16 N).map KB.b)=some i2)
  (hz1:∀ N,((tkR l ow m 16 N).getD i1 default).a=some ⟨N,0,none⟩) (hz2:∀ N,(tkR l ow m 16 N).getD i2 default=⟨⟨yo,ys,yu,(ow:Int),yn⟩,ya,ym,yc,yd⟩) (hyo:yo<1000000) :
  Calls Tryz.prog 90 #[.pointer (some ⟨P,0,none⟩),.int .i64 i,.int .u64 m] w fun e w'=>e=.returned (.agg #[.int .i64 0,.int .u64 (mtP (l.map KB.b) m 16:Nat),.int .u64 0])∧∃ N,MdR w w' F P all (mvK (tkR l ow m 16 N) i1 i2 yd) ns lv:=by
 obtain ⟨W0,hW0⟩:∃ W0,w.alloc (.cells #[.int .i64 0,.int .u64 0,.int .u64 0] 46)=W0:=⟨_,rfl⟩
 have hrb:=Yab w (.cells #[.int .i64 0,.int .u64 0,.int .u64 0] 46)
 have hga:=World.grownBy_alloc w (.cells #[.int .i64 0,.int .u64 0,.int .u64 0] 46) none
 rw [hW0] at hrb hga
 have hsz0:W0.heap.size=w.heap.size+1:=by rw [← hW0];simp
 obtain ⟨W1,hW1⟩:∃ W1,W0.alloc (.cells #[.int .u64 (yo:Nat),.int .u64 (ys:Nat),.bool yu,.int .i64 (ow:Int),.int .u64 (yn:Nat),.slice ya ym yc] 53)=W1:=⟨_,rfl⟩
 have hob:=Yab W0 (.cells #[.int .u64 (yo:Nat),.int .u64 (ys:Nat),.bool yu,.int .i64 (ow:Int),.int .u64 (yn:Nat),.slice ya ym yc] 53)
 have hgb:=World.grownBy_alloc W0 (.cells #[.int .u64 (yo:Nat),.int .u64 (ys:Nat),.bool yu,.int .i64 (ow:Int),.int .u64 (yn:Nat),.slice ya ym yc] 53) none
 rw [hW1] at hob hgb
 rw [hsz0] at hob
 have hg1:=Yaa hga hgb
 have hrb1:=(hgb.block _ (lt_of_block hrb) (by simp)).trans hrb
 have hM1:=h.later hg1
 obtain ⟨g,cap,f,M,hst,hk,hPg,hFg,hFM,hmp⟩:=(h.later hga).ex
 obtain ⟨nl,hnl⟩:∃ nl,l.length=nl:=⟨_,rfl⟩
 rw [hnl] at hst hk
 have hk2:=hk
 rw [hl] at hk2
 obtain ⟨hfi,hin,_⟩:=Ybn hk2 hA ⟨⟨yo,ys,yu,(ow:Int),yn⟩,ya,ym,yc,yd⟩
 have hin':(i:Int)<(nl:Int):=by omega
 have d1:=hst.cells.2.1
 obtain ⟨c0,c1,c2,c3,c4,c5⟩:=hst.row.cells hin
 rw [hfi] at c0 c1 c2 c3 c4 c5
 obtain ⟨b0,b1,b2,b3,b4,b5⟩:=Ya5 hob
 have HNF:Hid (¬ F w.heap.size):=Lib.hid (fun hF=>by have:=h.lt _ hF;omega)
 have HNB:Hid (¬ F (w.heap.size+1)):=Lib.hid (fun hF=>by have:=h.lt _ hF;omega)
 have HLW:=Lib.hid h.lt
 have HG1:=Lib.hid hg1
 have HL1:Hid (∀ g,F g→g<W1.heap.size):=Lib.hid (fun g hg=>Nat.lt_of_lt_of_le (h.lt g hg) hg1.size)
 have HRB:=Lib.hid hrb1
 have HOB:=Lib.hid hob
 have htk:=Yea hM1 hs.lay hs.fz hs.un (ow:=ow) hmn (show 16<18446744073709551616 by decide)
 obtain ⟨pq,hpq⟩:∃ pq,mtP (l.map KB.b) m 16=pq:=⟨_,rfl⟩
 simp only [hft,hpq] at htk h1 ⊢
 replace htk:Calls Tryz.prog 86 #[.pointer (some ⟨P,0,none⟩),.int .i64 (ow:Int),.int .u64 (m:Nat),.int .u64 16] W1 fun e w'=>e=.returned (.agg #[.int .i64 0,.int .u64 (pq:Nat),.int .u64 0])∧∃ N:Nat,MdR W1 w' F P all (tkR l ow m 16 N) ns lv:=htk
 have w32:IntKind.u64.wrap ((yo:Int)+32)=((yo+32:Nat):Int):=by rw [IntKind.wrap_u64];omega
 have HLA:=Lib.hid hL1
 have HQ1:=Lib.hid h1
 have HQ2:=Lib.hid h2
 have HZ1:=Lib.hid hz1
 have HZ2:=Lib.hid hz2
 clear h hs hl hk hk2 hst hmp hfi hM1 hrb hob hrb1 hga hgb hg1 hnl hpq hft hL1 h1 h2 hz1 hz2
 go_enter Tryz.func90,Tryz.ntmps90
 go_wp2_with (go_at_call 86;go_must ((with_reducible refine htk.mono ?_);rintro e w3 ⟨rfl,N,h3⟩;have hres4:=Yab w3 (.cells #[.int .i64 0,.int .u64 (pq:Nat),.int .u64 0] 46);have hg4:=World.grownBy_alloc w3 (.cells #[.int .i64 0,.int .u64 (pq:Nat),.int .u64 0] 46) none;obtain ⟨u0,u1,u2⟩:=Yaf hres4))
 obtain ⟨W4,hW4⟩:∃ W4,w3.alloc (.cells #[.int .i64 0,.int .u64 (pq:Nat),.int .u64 0] 46)=W4:=⟨_,rfl⟩
 rw [hW4] at hres4 hg4 u0 u1 u2 ⊢
 obtain ⟨l1,hl1⟩:∃ l1,tkR l ow m 16 N=l1:=⟨_,rfl⟩
 have hLA:=HLA.out N
 have hQ1:=HQ1.out N
 have hQ2:=HQ2.out N
 have hZ1:=HZ1.out N
 have hZ2:=HZ2.out N
 rw [hl1] at h3 hLA hQ1 hQ2 hZ1 hZ2
 have HMV:Hid (mvK (tkR l ow m 16 N) i1 i2 yd=mvK l1 i1 i2 yd):=Lib.hid (by rw [hl1])
 obtain ⟨F1,hF1⟩:∃ F1,growF F W1 w3=F1:=⟨_,rfl⟩
 have hM3:=h3.1
 rw [hF1] at hM3
 have hT3:=h3.2
 have hM4:=hM3.later hg4
 have hrb4:=(hg4.block _ (lt_of_block (Yay hT3 HRB.out HNF.out)) (by simp)).trans (Yay hT3 HRB.out HNF.out)
 have hob4:=(hg4.block _ (lt_of_block (Yay hT3 HOB.out HNB.out)) (by simp)).trans (Yay hT3 HOB.out HNB.out)
 have hnr:¬ F1 w.heap.size:=fun hF=>by
  rw [← hF1] at hF
  rcases hF with h|h
  ·exact HNF.out h
  ·have:=lt_of_block HRB.out;omega
 have hno:¬ F1 (w.heap.size+1):=fun hF=>by
  rw [← hF1] at hF
  rcases hF with h|h
  ·exact HNB.out h
  ·have:=lt_of_block HOB.out;omega
 have hn8:¬ F1 w3.heap.size:=fun hF=>by have:=hM3.lt _ hF;omega
 have hpl1:=place_md hM4 hLA pq
 obtain ⟨A1,z,C1,hlz,hA1,hzd,_,_,_⟩:=fst_amid hQ1
 rw [← hzd] at hZ1
 have hM4z:=hM4
 rw [hlz] at hM4z
 have HMS:=Lib.hid (And.intro hM4 (And.intro hM4z (And.intro hM3 hT3)))
 have HQS:=Lib.hid (And.intro hQ1 (And.intro hQ2 (And.intro hLA (And.intro hlz (And.intro hA1 (And.intro hzd (And.intro hZ1 hZ2)))))))
 have HBX:=Lib.hid (And.intro hrb4 (And.intro hob4 hres4))
 have HNX:=Lib.hid (And.intro hnr (And.intro hno hn8))
 have HG4:=Lib.hid hg4
 have HF1:=Lib.hid hF1
 have HL1N:=Lib.hid hl1
 clear h3 hM3 hT3 hM4 hM4z hrb4 hob4 hnr hno hn8 hQ1 hQ2 hLA hlz hzd hZ1 hZ2 hres4 hg4 hF1 hl1 hA1
 go_wp2_with (go_at_call 96;go_must ((with_reducible refine hpl1.mono ?_);rintro e w5 ⟨i',ok',rfl,hf5,hg5⟩;obtain ⟨rfl,rfl⟩:ok'=true∧i'=i1:=(by rw [HQS.out.1] at hf5;cases ok' with|false=>cases hf5|true=>injection hf5 with hf5;exact ⟨rfl,hf5.symm⟩)))
 obtain ⟨hM4,hM4z,hM3,hT3⟩:=HMS.out
 obtain ⟨hQ1,hQ2,hLA,hlz,hA1,hzd,hZ1,hZ2⟩:=HQS.out
 have hgd:=Yah hg5
 have hM5:=hM4z.later hgd
 obtain ⟨g1,cap1,f1,M1,hst1,hk1,_,_,_,_⟩:=hM5.ex
 obtain ⟨n1,hn1⟩:∃ n1,(A1++z::C1).length=n1:=⟨_,rfl⟩
 rw [hn1] at hst1 hk1
 obtain ⟨hf1,hin1,_⟩:=Ybn hk1 hA1 z
 have hin1':(i':Int)<(n1:Int):=by omega
 have t1:=hst1.cells.2.1
 have t2:=(hst1.row.cells hin1).2.2.2.2.2
 rw [hf1] at t2
 have hoz:OwnW w5.drew 0 (.slice (some ⟨N,0,none⟩) z.m z.c) z.d:=by have:=hM5.own z (by simp);unfold kv at this;rw [hZ1] at this;exact this
 rw [hZ1] at t2
 obtain ⟨zm,hzm⟩:∃ zm,z.m=zm:=⟨_,rfl⟩
 obtain ⟨zc,hzc⟩:∃ zc,z.c=zc:=⟨_,rfl⟩
 rw [hzm,hzc] at hoz t2
 have hyl:(⟨⟨yo,ys,yu,(ow:Int),yn⟩,ya,ym,yc,yd⟩:KB)∈l1:=by
  rw [← hZ2]
  obtain ⟨A2,z2,C2,e2,_,e3,_⟩:=fst_amid hQ2
  rw [← e3,e2];simp
 obtain ⟨hwd,hwl⟩:=ownW_form (x:=⟨⟨yo,ys,yu,(ow:Int),yn⟩,ya,ym,yc,yd⟩) (hM5.own _ (by rw [← hlz];exact hyl))
 obtain ⟨v6,w6,hrun,ho6,hg6⟩:=run_copy_words (dc:=yc) hoz hwd hwl 3
 have hkz:(kv z).ownBlock=some N:=by unfold kv;rw [hZ1];rfl
 have hW6:=hM5.words (d':=ovL z.d yd) hkz (by unfold kv;rw [hZ1,hzm,hzc];exact ho6) hg6
 have hlc:A1++z.dataed (ovL z.d yd)::C1=cpK l1 i' yd:=by
  unfold cpK
  rw [← hzd,hlz,← hA1]
  simp
 rw [hlc] at hW6
 have hob5:=(hgd.block _ (lt_of_block HBX.out.2.1) (by simp)).trans HBX.out.2.1
 have hr85:=(hgd.block _ (lt_of_block HBX.out.2.2) (by simp)).trans HBX.out.2.2
 obtain ⟨s0,s1,s2,s3,s4,s5⟩:=Ya5 hob5
 have hob6:=Yay hW6.2 hob5 HNX.out.2.1
 obtain ⟨r0,r1,r2,r3,r4,r5⟩:=Ya5 hob6
 have HW6:=Lib.hid hW6
 have HGD:=Lib.hid hgd
 have HR85:=Lib.hid hr85
 have t3:w5.cell? ⟨P,1,none⟩=some (.slice (some ⟨g1,0,none⟩) n1 cap1):=t1
 clear hW6 hM5 hM4 hM4z hM3 hT3 hQ1 hQ2 hLA hZ2 hst1 hk1 hf1 hoz hwd hyl hlc hob5 hob6 hgd ho6 hr85
 go_region
 all_goals
  obtain ⟨hQ1,hQ2,hLA,hlz,hA1,hzd,hZ1,hZ2⟩:=HQS.out
  have hmb:(cpK l1 i' yd).map KB.b=l1.map KB.b:=by
   have:cpK l1 i' yd=A1++z.dataed (ovL z.d yd)::C1:=by unfold cpK;rw [← hzd,hlz,← hA1];simp
   rw [this,hlz];simp [KB.dataed]
  have hL2:Lay E (cpK l1 i' yd):=⟨by rw [hmb];exact hLA.ch,hLA.top⟩
  rw [← hmb] at hQ2
  obtain ⟨A2,z2,C2,hl2,hA2,hz2,_,_,_⟩:=fst_amid hQ2
  have hpl2:=place_md HW6.out.1 hL2 (yo+32)
  replace hpl2:Calls Tryz.prog 96 #[.pointer (some ⟨P,0,none⟩),.int .u64 ((yo:Int)+32)] w6 _:=hpl2
  have HQ2:=Lib.hid hQ2
  have hrl:=fun (V:World) (hV:MdR w5.drew V F1 P all (cpK l1 i' yd) ns lv)=>release_md (A:=A2) (x:=z2) (C:=C2) (i:=i2) (by rw [hl2] at hV;exact hV.1) (by rw [← hl2];have:=hL2.few;omega) (by rw [← hl2];exact fun q hq=>by have:=hL2.mem hq;have:=hL2.top;omega) hA2
  have hend:jnL (A2++z2.free::C2)=mvK l1 i' i2 yd:=by unfold mvK;rw [← hz2,hl2,← hA2];simp
  have HEND:=Lib.hid hend
  have HRL:=Lib.hid hrl
  clear hQ1 hQ2 hLA hlz hzd hZ1 hZ2 hmb hL2 hl2 hz2 hend hrl
  go_wp2_with (first
   | (go_at_call 96;go_must ((with_reducible refine hpl2.mono ?_);rintro e w7 ⟨i3,ok3,rfl,hf7,hg7⟩;obtain ⟨rfl,rfl⟩:ok3=true∧i3=i2:=(by rw [HQ2.out] at hf7;cases ok3 with|false=>cases hf7|true=>injection hf7 with hf7;exact ⟨rfl,hf7.symm⟩);have hW7:=HW6.out.later hg7))
   | (go_at_call 93;go_must ((with_reducible refine (HRL.out _ hW7).mono ?_);rintro e w8 ⟨rfl,h7⟩;have h8:=MdR.seq hW7.2 h7 (fun g hg=>Nat.lt_of_lt_of_le (HMS.out.1.lt g hg) HGD.out.size);have hr8:=Yay h8.2 HR85.out HNX.out.2.2;obtain ⟨u0,u1,u2⟩:=Yaf hr8;have hbx3:=Yay h8.2 ((HGD.out.block _ (lt_of_block HBX.out.1) (by simp)).trans HBX.out.1) HNX.out.1;obtain ⟨y0,y1,y2⟩:=Yaf hbx3;obtain ⟨z0,z1,z2⟩:=Yak hbx3)))
  have hT5:Ybo F W1 w5.drew:=Ybx HMS.out.2.2.2 (Ybm (Yaa HG4.out HGD.out) (p:=fun _=>False) (fun k e=>by cases e)) (fun i hi=>hi.elim)
  have hs35:=(Yaa HG4.out HGD.out).size
  rw [HEND.out] at h8
  have hR8:=MdR.seq hT5 (h8.mono (F':=growF F W1 w5.drew) (fun g hg=>by
   rw [← HF1.out] at hg
   rcases hg with h|h
   ·exact .inl h
   ·exact .inr ⟨h.1,by omega⟩) (Ycp HL1.out hT5.size)) HL1.out
  rw [← HMV.out] at hR8
  have q:=Yaz hbx3 (x':=.int .i64 0) (y':=.int .u64 (pq:Nat)) (z':=.int .u64 0)
  obtain ⟨k0,k1,k2⟩:=Yaf q
  refine bodyPost_ret (v:=.agg #[.int .i64 0,.int .u64 (pq:Nat),.int .u64 0]) (by simp [results,Tryz.results90,go_sem,k0,k1,k2]) rfl ?_
  exact ⟨rfl,N,hR8.boxed HG1.out HLW.out (Nat.le_refl _) hbx3 (by decide) (by decide) (by decide) (Yaa (Yac _ _ _ _) (Yaa (Yac _ _ _ _) (Yac _ _ _ _)))⟩
end
end
section
section
variable {w w' w1 w2:World} {F:Nat→Prop} {P all E c i M p yo ys ow yn ym yc i1 i2:Nat} {yu:Bool} {ya:Option Addr} {yd:List Nat} {ns:List (ByteArray × Nat)} {lv:Nat→Bool} {l A C:List KB} {y:KB} {x:OpM}
set_option maxHeartbeats 4000000 in
theorem mrealloc_not (h:Md w F P all l ns lv) (hs:Sane E l) (hc:c<8) (hz:Ybj (l.map KB.b) x.off [((c:Int)+1)]=0) (hi:fstN (pF x.off) (l.map KB.b)=some i) (hl:l=A++⟨⟨yo,ys,yu,(ow:Int),yn⟩,ya,ym,yc,yd⟩::C) (hA:A.length=i) (hxn:x.n≤18446744073709551560) (hgt:ys<Yat x.n) (hft:Yax (l.map KB.b) x.n 16≠0) :
  Calls Tryz.prog 58 #[.pointer (some ⟨P,0,none⟩),.int .i64 c,.agg (opC x)] w fun e w'=>e=.returned (.agg #[.int .i64 (Yax (l.map KB.b) x.n 16:Nat),.int .u64 (mtP (l.map KB.b) x.n 16:Nat),.int .u64 0])∧MdR w w' F P all l ns lv:=by
 obtain ⟨hop,hres,hg0⟩:=Ybq (w:=w) x
 obtain ⟨W0,hW0⟩:∃ W0,((w.alloc (.cells (opC x) 41)).alloc (.cells #[.int .i64 0,.int .u64 0,.int .u64 0] 46))=W0:=⟨_,rfl⟩
 rw [hW0] at hop hres hg0
 have hM0:=h.later hg0
 have HNF:Hid (¬ F (w.heap.size+1)):=Lib.hid (fun hF=>by have:=h.lt _ hF;omega)
 have HNO:Hid (¬ F w.heap.size):=Lib.hid (fun hF=>by have:=h.lt _ hF;omega)
 have HLT:Hid (∀ g,F g→g<W0.heap.size):=Lib.hid (fun g hg=>Nat.lt_of_lt_of_le (h.lt g hg) hg0.size)
 have HLW:=Lib.hid h.lt
 have HRX:=Lib.hid hres
 have HOX:=Lib.hid hop
 have HG0:=Lib.hid hg0
 obtain ⟨o0,o1,o2,o3,o4,o5,o6,o7⟩:=Yal hop
 unfold opC at hW0 ⊢
 have how:=fun V=>Ybg hc V
 obtain ⟨W1,hW1⟩:∃ W1,(W0.alloc (.cells #[.int .i64 ((c:Int)+1)] 3)).drew=W1:=⟨_,rfl⟩
 have hg1:W0.grownBy W1 none:=by rw [← hW1];exact Yah (World.grownBy_alloc _ _ _)
 have hin1:Ycj W1 W0.heap.size [((c:Int)+1)]:=by
  rw [← hW1]
  exact (Ydh W0 _).later (Yah (Yag _ none))
 have hus:=Ycs (hM0.later hg1) hs.lay x.off (ow:=[((c:Int)+1)]) (m:=1) rfl (by decide) hin1 1
 obtain ⟨ui,hui⟩:∃ ui,Yei (l.map KB.b) x.off [((c:Int)+1)]=ui:=⟨_,rfl⟩
 obtain ⟨ue,hue⟩:∃ ue,Ybj (l.map KB.b) x.off [((c:Int)+1)]=ue:=⟨_,rfl⟩
 have p3:W0.drew.cell? ⟨w.heap.size,3,none⟩=some (.int .u64 (x.off:Nat)):=o3
 have p4:W1.cell? ⟨w.heap.size,3,none⟩=some (.int .u64 (x.off:Nat)):=hg1.cell o3 (by simp)
 have p5:(W0.alloc (.cells #[.int .i64 ((c:Int)+1)] 3)).cell? ⟨w.heap.size,3,none⟩=some (.int .u64 (x.off:Nat)):=(World.grownBy_alloc W0 _ none).cell o3 (by simp)
 have HG1:=Lib.hid hg1
 obtain ⟨i',hi1,_,hi3⟩:=Ycm hz
 have hii:ui=i:=by rw [hi] at hi1;injection hi1 with hi1;rw [← hui,hi3,hi1]
 rw [hui,hz,hii] at hus
 have hnd:=fun V=>need_fits x.n (by omega) V
 obtain ⟨nd,hnd2⟩:∃ nd,Yat x.n=nd:=⟨_,rfl⟩
 rw [hnd2] at hnd hgt
 have hgt':(ys:Int)<(nd:Int):=by omega
 have hmv:=fun (V:World) (hgV:W0.grownBy V none)=>mmove_not (hM0.later hgV) hs hl hA (by omega:x.n<18446744073709551616) hft
 obtain ⟨er,her⟩:∃ er,Yax (l.map KB.b) x.n 16=er:=⟨_,rfl⟩
 simp only [her] at hmv ⊢
 clear her hft
 obtain ⟨pq,hpq⟩:∃ pq,mtP (l.map KB.b) x.n 16=pq:=⟨_,rfl⟩
 simp only [hpq] at hmv ⊢
 obtain ⟨g,cap,f,M,hst,hk,hPg,hFg,hFM,hmp⟩:=hM0.ex
 obtain ⟨n,hn⟩:∃ n,l.length=n:=⟨_,rfl⟩
 rw [hn] at hst hk
 have hk2:=hk
 rw [hl] at hk2
 obtain ⟨hfi,hin,_⟩:=Ybn hk2 hA ⟨⟨yo,ys,yu,(ow:Int),yn⟩,ya,ym,yc,yd⟩
 have hin':(i:Int)<(n:Int):=by omega
 have HFS:Hid ((f i).b.s=ys):=Lib.hid (by rw [hfi])
 have HST:=Lib.hid hst
 have HMV:=Lib.hid hmv
 clear hop hres hg0 hM0 h hui hue hin1 hg1 hz hi hi1 hi3 hii hst hk hk2 hmp hn hs hl hnd2 hfi hmv hpq hgt
 go_enter Tryz.func58,Tryz.ntmps58
 go_wp2
 go_region_law (first
  | (go_simp;go_at_call 38;go_must ((with_reducible refine (how _).mono ?_);rintro e v1 ⟨rfl,rfl⟩))
  | (go_simp;go_at_call 88;go_must ((with_reducible refine hus.mono ?_);rintro e w2 ⟨rfl,hg2⟩;have hGG:=Yaa HG1.out hg2)))
 all_goals
  obtain ⟨_,q1,_,_,_,_,_,_⟩:=Yal ((hGG.block _ (lt_of_block HOX.out) (by simp)).trans HOX.out)
  have hst2:=HST.out.later hGG
  have e1:=hst2.cells.2.1
  have e2:=(hst2.row.cells hin).2.1
  rw [HFS.out] at e2
  clear hst2
  go_wp2_with (first
   | (go_at_call 89;go_must ((with_reducible refine (hnd _).mono ?_);rintro e w4 ⟨rfl,rfl⟩))
   | (go_at_call 90;go_must ((with_reducible refine (HMV.out _ hGG).mono ?_);rintro e w6 ⟨rfl,h6⟩;have hR8:=MdR.first hGG h6 HLT.out;have hbx3:=Yay hR8.2 HRX.out HNF.out;obtain ⟨y0,y1,y2⟩:=Yaf hbx3;obtain ⟨z0,z1,z2⟩:=Yak hbx3)))
  have q:=Yaz hbx3 (x':=.int .i64 (er:Nat)) (y':=.int .u64 (pq:Nat)) (z':=.int .u64 0)
  obtain ⟨k0,k1,k2⟩:=Yaf q
  refine bodyPost_ret (v:=.agg #[.int .i64 (er:Nat),.int .u64 (pq:Nat),.int .u64 0]) (by simp [results,Tryz.results58,go_sem,k0,k1,k2]) rfl ?_
  exact ⟨rfl,hR8.boxed HG0.out HLW.out (by omega) hbx3 (by decide) (by decide) (by decide) (Yaa (Yac _ _ _ _) (Yaa (Yac _ _ _ _) (Yac _ _ _ _)))⟩
set_option maxHeartbeats 4000000 in
theorem mrealloc_move (h:Md w F P all l ns lv) (hs:Sane E l) (hc:c<8) (hz:Ybj (l.map KB.b) x.off [((c:Int)+1)]=0) (hi:fstN (pF x.off) (l.map KB.b)=some i) (hl:l=A++⟨⟨yo,ys,yu,(ow:Int),yn⟩,ya,ym,yc,yd⟩::C) (hA:A.length=i) (hxn:x.n≤18446744073709551560) (hgt:ys<Yat x.n) (hft:Yax (l.map KB.b) x.n 16=0) (hL1:∀ N,Lay E (tkR l ow x.n 16 N)) (h1:∀ N,fstN (pF (mtP (l.map KB.b) x.n 16)) ((tkR l ow x.n 16 N).map KB.b)=some i1) (h2:∀ N,fstN (pF (yo+32)) ((tkR l ow x.n 16 N).map KB.b)=some i2) (hz1:∀ N,((tkR l ow x.n 16 N).getD i1 default).a=some ⟨N,0,none⟩) (hz2:∀ N,(tkR l ow x.n 16 N).getD i2 default=⟨⟨yo,ys,yu,(ow:Int),yn⟩,ya,ym,yc,yd⟩) (hyo:yo<1000000) :
  Calls Tryz.prog 58 #[.pointer (some ⟨P,0,none⟩),.int .i64 c,.agg (opC x)] w fun e w'=>e=.returned (.agg #[.int .i64 (0),.int .u64 (mtP (l.map KB.b) x.n 16:Nat),.int .u64 0])∧∃ N,MdR w w' F P all (mvK (tkR l ow x.n 16 N) i1 i2 yd) ns lv:=by
 obtain ⟨hop,hres,hg0⟩:=Ybq (w:=w) x
 obtain ⟨W0,hW0⟩:∃ W0,((w.alloc (.cells (opC x) 41)).alloc (.cells #[.int .i64 0,.int .u64 0,.int .u64 0] 46))=W0:=⟨_,rfl⟩
 rw [hW0] at hop hres hg0
 have hM0:=h.later hg0
 have HNF:Hid (¬ F (w.heap.size+1)):=Lib.hid (fun hF=>by have:=h.lt _ hF;omega)
 have HNO:Hid (¬ F w.heap.size):=Lib.hid (fun hF=>by have:=h.lt _ hF;omega)
 have HLT:Hid (∀ g,F g→g<W0.heap.size):=Lib.hid (fun g hg=>Nat.lt_of_lt_of_le (h.lt g hg) hg0.size)
 have HLW:=Lib.hid h.lt
 have HRX:=Lib.hid hres
 have HOX:=Lib.hid hop
 have HG0:=Lib.hid hg0
 obtain ⟨o0,o1,o2,o3,o4,o5,o6,o7⟩:=Yal hop
 unfold opC at hW0 ⊢
 have how:=fun V=>Ybg hc V
 obtain ⟨W1,hW1⟩:∃ W1,(W0.alloc (.cells #[.int .i64 ((c:Int)+1)] 3)).drew=W1:=⟨_,rfl⟩
 have hg1:W0.grownBy W1 none:=by rw [← hW1];exact Yah (World.grownBy_alloc _ _ _)
 have hin1:Ycj W1 W0.heap.size [((c:Int)+1)]:=by
  rw [← hW1]
  exact (Ydh W0 _).later (Yah (Yag _ none))
 have hus:=Ycs (hM0.later hg1) hs.lay x.off (ow:=[((c:Int)+1)]) (m:=1) rfl (by decide) hin1 1
 obtain ⟨ui,hui⟩:∃ ui,Yei (l.map KB.b) x.off [((c:Int)+1)]=ui:=⟨_,rfl⟩
 obtain ⟨ue,hue⟩:∃ ue,Ybj (l.map KB.b) x.off [((c:Int)+1)]=ue:=⟨_,rfl⟩
 have p3:W0.drew.cell? ⟨w.heap.size,3,none⟩=some (.int .u64 (x.off:Nat)):=o3
 have p4:W1.cell? ⟨w.heap.size,3,none⟩=some (.int .u64 (x.off:Nat)):=hg1.cell o3 (by simp)
 have p5:(W0.alloc (.cells #[.int .i64 ((c:Int)+1)] 3)).cell? ⟨w.heap.size,3,none⟩=some (.int .u64 (x.off:Nat)):=(World.grownBy_alloc W0 _ none).cell o3 (by simp)
 have HG1:=Lib.hid hg1
 obtain ⟨i',hi1,_,hi3⟩:=Ycm hz
 have hii:ui=i:=by rw [hi] at hi1;injection hi1 with hi1;rw [← hui,hi3,hi1]
 rw [hui,hz,hii] at hus
 have hnd:=fun V=>need_fits x.n (by omega) V
 obtain ⟨nd,hnd2⟩:∃ nd,Yat x.n=nd:=⟨_,rfl⟩
 rw [hnd2] at hnd hgt
 have hgt':(ys:Int)<(nd:Int):=by omega
 have hmv:=fun (V:World) (hgV:W0.grownBy V none)=>mmove_ok (hM0.later hgV) hs hl hA (by omega:x.n<18446744073709551616) hft hL1 h1 h2 hz1 hz2 hyo
 clear h1 h2 hz1 hz2 hL1 hft
 obtain ⟨pq,hpq⟩:∃ pq,mtP (l.map KB.b) x.n 16=pq:=⟨_,rfl⟩
 simp only [hpq] at hmv ⊢
 obtain ⟨g,cap,f,M,hst,hk,hPg,hFg,hFM,hmp⟩:=hM0.ex
 obtain ⟨n,hn⟩:∃ n,l.length=n:=⟨_,rfl⟩
 rw [hn] at hst hk
 have hk2:=hk
 rw [hl] at hk2
 obtain ⟨hfi,hin,_⟩:=Ybn hk2 hA ⟨⟨yo,ys,yu,(ow:Int),yn⟩,ya,ym,yc,yd⟩
 have hin':(i:Int)<(n:Int):=by omega
 have HFS:Hid ((f i).b.s=ys):=Lib.hid (by rw [hfi])
 have HST:=Lib.hid hst
 have HMV:=Lib.hid hmv
 clear hop hres hg0 hM0 h hui hue hin1 hg1 hz hi hi1 hi3 hii hst hk hk2 hmp hn hs hl hnd2 hfi hmv hpq hgt
 go_enter Tryz.func58,Tryz.ntmps58
 go_wp2
 go_region_law (first
  | (go_simp;go_at_call 38;go_must ((with_reducible refine (how _).mono ?_);rintro e v1 ⟨rfl,rfl⟩))
  | (go_simp;go_at_call 88;go_must ((with_reducible refine hus.mono ?_);rintro e w2 ⟨rfl,hg2⟩;have hGG:=Yaa HG1.out hg2)))
 all_goals
  obtain ⟨_,q1,_,_,_,_,_,_⟩:=Yal ((hGG.block _ (lt_of_block HOX.out) (by simp)).trans HOX.out)
  have hst2:=HST.out.later hGG
  have e1:=hst2.cells.2.1
  have e2:=(hst2.row.cells hin).2.1
  rw [HFS.out] at e2
  clear hst2
  go_wp2_with (first
   | (go_at_call 89;go_must ((with_reducible refine (hnd _).mono ?_);rintro e w4 ⟨rfl,rfl⟩))
   | (go_at_call 90;go_must ((with_reducible refine (HMV.out _ hGG).mono ?_);rintro e w6 ⟨rfl,N,h6⟩;have hR8:=MdR.first hGG h6 HLT.out;have hbx3:=Yay hR8.2 HRX.out HNF.out;obtain ⟨y0,y1,y2⟩:=Yaf hbx3;obtain ⟨z0,z1,z2⟩:=Yak hbx3)))
  have q:=Yaz hbx3 (x':=.int .i64 0) (y':=.int .u64 (pq:Nat)) (z':=.int .u64 0)
  obtain ⟨k0,k1,k2⟩:=Yaf q
  refine bodyPost_ret (v:=.agg #[.int .i64 0,.int .u64 (pq:Nat),.int .u64 0]) (by simp [results,Tryz.results58,go_sem,k0,k1,k2]) rfl ?_
  exact ⟨rfl,N,hR8.boxed HG0.out HLW.out (by omega) hbx3 (by decide) (by decide) (by decide) (Yaa (Yac _ _ _ _) (Yaa (Yac _ _ _ _) (Yac _ _ _ _)))⟩
end
end
section
def KB.val (z:KB):Value:=.agg #[.int .u64 (z.b.off:Nat),.int .u64 (z.b.s:Nat),.bool z.b.u,.int .i64 z.b.o,.int .u64 (z.b.n:Nat),.slice z.a z.m z.c]
def AsksK (g cb:Nat) (p:KB→Bool) (w:World):Prop:=∀ W,w.grownBy W none→∀ z:KB,Calls Tryz.prog g #[z.val,.pointer (some ⟨cb,0,none⟩)] W fun e w'=>e=.returned (.bool (p z))∧W.grownBy w' none
section
variable {w w' w1 w2:World} {F:Nat→Prop} {P g cap n all E c i M cb b:Nat} {f:Nat→KB} {ns:List (ByteArray × Nat)} {lv:Nat→Bool} {l A C:List KB} {y:KB} {x:OpM}
set_option maxHeartbeats 1000000 in
theorem asks_detach (hc:c<8) (hb:cb<w.heap.size) (hcell:w.cell? ⟨cb,0,none⟩=some (.int .i64 (c:Int))):AsksK 99 cb (fun z=>decide (z.b.o=(c:Int)+1)) w:=fun W hW z=>by
 have hc0:W.cell? ⟨cb,0,none⟩=some (.int .i64 (c:Int)):=(World.cell?_of_block (w:=w) (a:=⟨cb,0,none⟩) (hW.block cb hb (by simp))).trans hcell
 obtain ⟨⟨z0,z1,z2,z3,z4⟩,za,zm,zc,zd⟩:=z
 unfold KB.val
 simp only
 have how:=fun V=>Ybg hc V
 have hob:=Yab W (.cells #[.int .u64 (z0:Nat),.int .u64 (z1:Nat),.bool z2,.int .i64 z3,.int .u64 (z4:Nat),.slice za zm zc] 53)
 have hg1:=World.grownBy_alloc W (.cells #[.int .u64 (z0:Nat),.int .u64 (z1:Nat),.bool z2,.int .i64 z3,.int .u64 (z4:Nat),.slice za zm zc] 53) none
 obtain ⟨W1,hW1⟩:∃ W1,W.alloc (.cells #[.int .u64 (z0:Nat),.int .u64 (z1:Nat),.bool z2,.int .i64 z3,.int .u64 (z4:Nat),.slice za zm zc] 53)=W1:=⟨_,rfl⟩
 rw [hW1] at hob hg1
 obtain ⟨b0,b1,b2,b3,b4,b5⟩:=Ya5 hob
 have b3':W1.drew.cell? ⟨W.heap.size,3,none⟩=some (.int .i64 z3):=b3
 have hc1:=hg1.cell hc0 (by simp)
 have hc2:W1.drew.cell? ⟨cb,0,none⟩=some (.int .i64 (c:Int)):=hc1
 have hgd:=Yah hg1
 have e:decide (z3=(c:Int)+1)=(z3 == (c:Int)+1):=by rw [Bool.eq_iff_iff,decide_eq_true_iff,beq_iff_eq]
 rw [e]
 go_enter Tryz.func99,Tryz.ntmps99
 go_wp2
 go_region_law (go_simp;go_at_call 38;go_must ((with_reducible refine (how _).mono ?_);rintro e w1 ⟨rfl,rfl⟩))
 all_goals
  go_wp2
  go_ret
  exact ⟨rfl,hgd⟩
set_option maxHeartbeats 1000000 in
theorem index_kb {fn:Nat} (eg:∀ args w,(callFunc fn args).run Tryz.prog w=.ok (.enter fn args) w) {p:KB→Bool} (h:RowF w g cap n f) (hn:n≤1000) (ha:AsksK fn cb p w) :
  Calls Tryz.prog 122 #[.slice (some ⟨g,0,none⟩) n cap,.func (.func fn) #[] #[.pointer (some ⟨cb,0,none⟩)]] w fun e w'=>∃ r:Int,e=.returned (.int .i64 r)∧(0≤r↔∃ j,j<n∧p (f j)=true)∧w.grownBy w' none:=by
 have HH:=Lib.hid h
 have HA:=Lib.hid ha
 clear h ha
 go_enter Tryz.func122,Tryz.ntmps122
 go_wp2
 go_loopw [8] (fun i wr=>∃ k:Nat,k≤n∧i=.int .i64 k∧w.grownBy wr none∧Hid (∀ j,j<k→p (f j)=false)) (fun i _=>n - (intOf i).toNat)
 case atStart=>exact ⟨0,Nat.zero_le _,rfl,Yag _ _,Lib.hid (fun j hj=>absurd hj (Nat.not_lt_zero _))⟩
 case round =>
  obtain ⟨k,hk,rfl,hg,HJ⟩:=hrel
  rcases Nat.lt_or_ge k n with h1|h1
  ·obtain ⟨c0,c1,c2,c3,c4,c5⟩:=(HH.out.later hg).cells h1
   have hcall:=HA.out wr hg (f k)
   unfold KB.val at hcall
   obtain ⟨r,hr⟩:∃ r,p (f k)=r:=⟨_,rfl⟩
   rw [hr] at hcall
   have HR:=Lib.hid hr
   clear hr
   cases r with
   | true =>
    go_wp2_with (go_at_fn fn;refine hcall.mono ?_;rintro e w' ⟨rfl,hg1⟩)
    go_ret
    exact ⟨(k:Int),rfl,⟨fun _=>⟨k,h1,HR.out⟩,fun _=>by omega⟩,Yaa hg hg1⟩
   | false =>
    go_wp2_with (go_at_fn fn;refine hcall.mono ?_;rintro e w' ⟨rfl,hg1⟩)
    go_roundw
    case rel =>
     refine ⟨k+1,by omega,by go_num,Yaa hg hg1,Lib.hid fun j hj=>?_⟩
     rcases Nat.lt_or_ge j k with h'|h'
     ·exact HJ.out j h'
     ·rw [show j=k by omega];exact HR.out
    case measure=>simp [intOf];omega
  ·obtain rfl:k=n:=by omega
   go_wp2
   go_ret
   exact ⟨-1,rfl,⟨fun h=>by omega,fun ⟨j,hj,hp⟩=>by rw [HJ.out j hj] at hp;cases hp⟩,hg⟩
theorem contains_kb {p:KB→Bool} (h:RowF w g cap n f) (hn:n≤1000) (ha:AsksK 99 cb p w) :
  Calls Tryz.prog 98 #[.slice (some ⟨g,0,none⟩) n cap,.func (.func 99) #[] #[.pointer (some ⟨cb,0,none⟩)]] w fun e w'=>∃ r:Bool,e=.returned (.bool r)∧(r=true↔∃ j,j<n∧p (f j)=true)∧w.grownBy w' none:=by
 have hix:=index_kb (fun _ _=>rfl) h hn ha
 clear h ha
 go_enter Tryz.func98,Tryz.ntmps98
 go_wp2_with (go_at_call 122;go_must ((with_reducible refine hix.mono ?_);rintro e w1 ⟨r,rfl,hr,hg⟩))
 go_ret
 exact ⟨_,rfl,by rw [decide_eq_true_iff],hg⟩
set_option maxHeartbeats 2000000 in
theorem mdetach_busy (h:Md w F P all l ns lv) (hn:l.length≤1000) (hc:c<8) (hb:∃ z∈l,z.b.o=(c:Int)+1) :
  Calls Tryz.prog 68 #[.pointer (some ⟨P,0,none⟩),.int .i64 c,.agg (opC x)] w fun e w'=>e=.returned (.agg #[.int .i64 11,.int .u64 0,.int .u64 0])∧w.grownBy w' none:=by
 obtain ⟨W0,hW0⟩:∃ W0,(((w.alloc (.cells #[.int .i64 (c:Int)] 3)).alloc (.cells (opC x) 41)).alloc (.cells #[.int .i64 0,.int .u64 0,.int .u64 0] 46))=W0:=⟨_,rfl⟩
 have hg0:w.grownBy W0 none:=by rw [← hW0];exact Yaa (World.grownBy_alloc _ _ _) (Yaa (World.grownBy_alloc _ _ _) (World.grownBy_alloc _ _ _))
 have hcc:W0.heap[w.heap.size]?=some (.cells #[.int .i64 (c:Int)] 3 (0,0)):=by
  rw [← hW0]
  exact ((Yaa (World.grownBy_alloc _ _ none) (World.grownBy_alloc _ _ none)).block _ (by simp) (by simp)).trans (Yab _ _)
 have hres:W0.heap[w.heap.size+2]?=some (.cells #[.int .i64 0,.int .u64 0,.int .u64 0] 46 (0,0)):=by
  have h1:=Yab ((w.alloc (.cells #[.int .i64 (c:Int)] 3)).alloc (.cells (opC x) 41)) (.cells #[.int .i64 0,.int .u64 0,.int .u64 0] 46)
  rw [hW0] at h1
  have e:((w.alloc (.cells #[.int .i64 (c:Int)] 3)).alloc (.cells (opC x) 41)).heap.size=w.heap.size+2:=by simp
  rw [e] at h1
  exact h1
 have hM0:=h.later hg0
 have HNF:Hid (¬ F (w.heap.size+2)):=Lib.hid (fun hF=>by have:=h.lt _ hF;omega)
 have HLT:Hid (∀ g,F g→g<W0.heap.size):=Lib.hid (fun g hg=>Nat.lt_of_lt_of_le (h.lt g hg) hg0.size)
 have HLW:=Lib.hid h.lt
 have HRX:=Lib.hid hres
 have HG0:=Lib.hid hg0
 have hcell:=Yas (k:=0) hcc rfl
 have hlc0:=lt_of_block hcc
 unfold opC at hW0 ⊢
 obtain ⟨g,cap,f,M,hst,hk,hPg,hFg,hFM,hmp⟩:=hM0.ex
 have d1:=hst.cells.2.1
 have hcf:=contains_kb (p:=fun z=>decide (z.b.o=(c:Int)+1)) hst.row hn (asks_detach hc hlc0 hcell)
 have hex:(∃ j,j<l.length∧decide ((f j).b.o=(c:Int)+1)=true)↔∃ z∈l,z.b.o=(c:Int)+1:=by
  constructor
  ·rintro ⟨j,hj,hd⟩
   exact ⟨f j,Ydp hk hj,by simpa using hd⟩
  ·rintro ⟨z,hz,hd⟩
   rw [← hk] at hz
   obtain ⟨j,hj,rfl⟩:=List.mem_map.1 hz
   exact ⟨j,List.mem_range.1 hj,by simpa using hd⟩
 have HB:=Lib.hid (hex.2 hb)
 have hfl:=fun V=>Ya6 11 V
 clear hM0 h hg0 hcc hres hst hk hmp hex hb
 go_enter Tryz.func68,Tryz.ntmps68
 go_wp2_with (first
  | (go_at_call 98;go_must ((with_reducible refine hcf.mono ?_);rintro e w1 ⟨r,rfl,hr,hg1⟩;obtain rfl:r=true:=hr.2 HB.out;clear hr))
  | (go_at_call 33;go_must ((with_reducible refine (hfl _).mono ?_);rintro e w4 ⟨rfl,hg4⟩;have hGG:=Yaa hg1 hg4;have hbx3:=(hGG.block _ (lt_of_block HRX.out) (by simp)).trans HRX.out;obtain ⟨y0,y1,y2⟩:=Yaf hbx3;obtain ⟨z0,z1,z2⟩:=Yak hbx3)))
 have q:=Yaz hbx3 (x':=.int .i64 11) (y':=.int .u64 0) (z':=.int .u64 0)
 obtain ⟨k0,k1,k2⟩:=Yaf q
 refine bodyPost_ret (v:=.agg #[.int .i64 11,.int .u64 0,.int .u64 0]) (by simp [results,Tryz.results68,go_sem,k0,k1,k2]) rfl ?_
 exact ⟨rfl,Yap (Yaa (Yam (Yaa HG0.out hGG) (some (w.heap.size+2))) (Yaa (Yac _ _ _ _) (Yaa (Yac _ _ _ _) (Yac _ _ _ _)))) (by omega)⟩
set_option maxHeartbeats 2000000 in
theorem mdetach_ok (h:Md w F P all l ns lv) (hn:l.length≤1000) (hc:c<8) (hb:∀ z∈l,z.b.o≠(c:Int)+1) :
  Calls Tryz.prog 68 #[.pointer (some ⟨P,0,none⟩),.int .i64 c,.agg (opC x)] w fun e w'=>e=.returned (.agg #[.int .i64 0,.int .u64 0,.int .u64 0])∧MdR w w' F P all l ns (oth lv c false):=by
 obtain ⟨W0,hW0⟩:∃ W0,(((w.alloc (.cells #[.int .i64 (c:Int)] 3)).alloc (.cells (opC x) 41)).alloc (.cells #[.int .i64 0,.int .u64 0,.int .u64 0] 46))=W0:=⟨_,rfl⟩
 have hg0:w.grownBy W0 none:=by rw [← hW0];exact Yaa (World.grownBy_alloc _ _ _) (Yaa (World.grownBy_alloc _ _ _) (World.grownBy_alloc _ _ _))
 have hcc:W0.heap[w.heap.size]?=some (.cells #[.int .i64 (c:Int)] 3 (0,0)):=by
  rw [← hW0]
  exact ((Yaa (World.grownBy_alloc _ _ none) (World.grownBy_alloc _ _ none)).block _ (by simp) (by simp)).trans (Yab _ _)
 have hres:W0.heap[w.heap.size+2]?=some (.cells #[.int .i64 0,.int .u64 0,.int .u64 0] 46 (0,0)):=by
  have h1:=Yab ((w.alloc (.cells #[.int .i64 (c:Int)] 3)).alloc (.cells (opC x) 41)) (.cells #[.int .i64 0,.int .u64 0,.int .u64 0] 46)
  rw [hW0] at h1
  have e:((w.alloc (.cells #[.int .i64 (c:Int)] 3)).alloc (.cells (opC x) 41)).heap.size=w.heap.size+2:=by simp
  rw [e] at h1
  exact h1
 have hM0:=h.later hg0
 have HNF:Hid (¬ F (w.heap.size+2)):=Lib.hid (fun hF=>by have:=h.lt _ hF;omega)
 have HLT:Hid (∀ g,F g→g<W0.heap.size):=Lib.hid (fun g hg=>Nat.lt_of_lt_of_le (h.lt g hg) hg0.size)
 have HLW:=Lib.hid h.lt
 have HRX:=Lib.hid hres
 have HG0:=Lib.hid hg0
 have hcell:=Yas (k:=0) hcc rfl
 have hlc0:=lt_of_block hcc
 unfold opC at hW0 ⊢
 obtain ⟨g,cap,f,M,hst,hk,hPg,hFg,hFM,hmp⟩:=hM0.ex
 have d1:=hst.cells.2.1
 have hcf:=contains_kb (p:=fun z=>decide (z.b.o=(c:Int)+1)) hst.row hn (asks_detach hc hlc0 hcell)
 have hex:(∃ j,j<l.length∧decide ((f j).b.o=(c:Int)+1)=true)↔∃ z∈l,z.b.o=(c:Int)+1:=by
  constructor
  ·rintro ⟨j,hj,hd⟩
   exact ⟨f j,Ydp hk hj,by simpa using hd⟩
  ·rintro ⟨z,hz,hd⟩
   rw [← hk] at hz
   obtain ⟨j,hj,rfl⟩:=List.mem_map.1 hz
   exact ⟨j,List.mem_range.1 hj,by simpa using hd⟩
 have HB:Hid (¬ ∃ j,j<l.length∧decide ((f j).b.o=(c:Int)+1)=true):=Lib.hid (fun hx=>by obtain ⟨z,hz,e⟩:=hex.1 hx;exact hb z hz e)
 have hc8:(c:Int)<8:=by omega
 have HM0:=Lib.hid hM0
 have HCC:=Lib.hid hcc
 clear hM0 h hg0 hcc hres hst hk hmp hex hb
 go_enter Tryz.func68,Tryz.ntmps68
 go_wp2_with (first
  | (go_at_call 98;go_must ((with_reducible refine hcf.mono ?_);rintro e w1 ⟨r,rfl,hr,hg1⟩;obtain rfl:r=false:=(by cases r with|false=>rfl|true=>exact absurd (hr.1 rfl) HB.out);clear hr)))
 have hM1:=HM0.out.later (Yah hg1)
 obtain ⟨hR,hfz⟩:=hM1.relive hc false
 obtain ⟨W5,hW5⟩:∃ W5,w1.drew.setCell ⟨P,3+c,none⟩ (.bool false)=W5:=⟨_,rfl⟩
 rw [hW5] at hR
 have hlc:=hM1.live hc
 have hcw:=Yas (k:=0) ((hg1.block _ (lt_of_block HCC.out) (by simp)).trans HCC.out) rfl
 have hcw':w1.drew.cell? ⟨w.heap.size,0,none⟩=some (.int .i64 (c:Int)):=hcw
 have hR8:=MdR.first (Yah hg1) hR HLT.out
 have hbx3:=Yay hR8.2 HRX.out HNF.out
 obtain ⟨y0,y1,y2⟩:=Yaf hbx3
 obtain ⟨z0,z1,z2⟩:=Yak hbx3
 have HR8:=Lib.hid hR8
 clear hM1 hR hR8
 go_region
 all_goals
  go_wp2
  have hR8:=HR8.out
  have q:=Yaz hbx3 (x':=.int .i64 0) (y':=.int .u64 0) (z':=.int .u64 0)
  obtain ⟨k0,k1,k2⟩:=Yaf q
  refine bodyPost_ret (v:=.agg #[.int .i64 0,.int .u64 0,.int .u64 0]) (by simp [results,Tryz.results68,go_sem,k0,k1,k2]) rfl ?_
  exact ⟨rfl,hR8.boxed HG0.out HLW.out (by omega) hbx3 (by decide) (by decide) (by decide) (Yaa (Yac _ _ _ _) (Yaa (Yac _ _ _ _) (Yac _ _ _ _)))⟩
end
end
section
section
variable {w w' w1 w2:World} {F:Nat→Prop} {P all k:Nat} {ns:List (ByteArray × Nat)} {lv:Nat→Bool} {l:List KB}
theorem index_live (lv:Nat→Bool) (hk:k<8) (W:World):(Instr.index 34 (.agg #[.bool (lv 0),.bool (lv 1),.bool (lv 2),.bool (lv 3),.bool (lv 4),.bool (lv 5),.bool (lv 6),.bool (lv 7)]) (.int .i64 (k:Int))).run Tryz.prog W=.ok (.bool (lv k)) W:=by
 rcases (show k=0∨k=1∨k=2∨k=3∨k=4∨k=5∨k=6∨k=7 by omega) with rfl|rfl|rfl|rfl|rfl|rfl|rfl|rfl <;> kernel_rfl
set_option maxHeartbeats 2000000 in
theorem mlive_any (h:Md w F P all l ns lv) :
  Calls Tryz.prog 21 #[.pointer (some ⟨P,0,none⟩)] w fun e w'=>∃ v',e=.returned v'∧OwnI w' w.heap.size v' (liveL lv)∧w.grownBy w' none:=by
 have c0:=h.live (k:=0) (by decide)
 have c1:=h.live (k:=1) (by decide)
 have c2:=h.live (k:=2) (by decide)
 have c3:=h.live (k:=3) (by decide)
 have c4:=h.live (k:=4) (by decide)
 have c5:=h.live (k:=5) (by decide)
 have c6:=h.live (k:=6) (by decide)
 have c7:=h.live (k:=7) (by decide)
 simp only [Nat.reduceAdd] at c0 c1 c2 c3 c4 c5 c6 c7
 have hixx:=fun (k:Nat) (hk:k<8) (W:World)=>index_live lv hk W
 have HIX:=Lib.hid hixx
 clear hixx h
 go_enter Tryz.func21,Tryz.ntmps21
 go_wp2
 go_loopw [3,12] (fun v i wr=>∃ k:Nat,k≤8∧i=.int .i64 k∧OwnI wr w.heap.size v ((List.range k).filter fun x=>lv x)∧w.grownBy wr none) (fun _ i _=>8 - (intOf i).toNat)
 case atStart=>exact ⟨0,Nat.zero_le _,rfl,World.ownsRow_nil _ _ _ _,Yag _ _⟩
 case round =>
  obtain ⟨k,hk,rfl,hown,hgr⟩:=hrel
  by_cases h1:k<8
  ·have h1':(k:Int)<8:=by omega
   have hix:=fun W=>HIX.out k h1 W
   obtain ⟨x,hx⟩:∃ x,lv k=x:=⟨_,rfl⟩
   rw [hx] at hix
   have hfl:((List.range k).filter fun x=>lv x).length≤8:=Nat.le_trans (List.length_filter_le _ _) (by simp;omega)
   have hsz1:=hgr.size
   cases x with
   | true =>
    have hfil:(List.range (k+1)).filter (fun y=>lv y)=(List.range k).filter (fun y=>lv y)++[k]:=by rw [List.range_succ,List.filter_append];simp [hx]
    have HF:=Lib.hid hfil
    clear hfil hx
    go_wp2_with (at_builtin;go_must (refine Yeo rfl _ _ rfl w.heap.size _ _ rfl hown k rfl (by omega) hsz1 ?_);intro v' w3 hown3 hg3)
    go_roundw
    case rel=>exact ⟨k+1,by omega,by go_num,by rw [HF.out];exact hown3,Yaj hgr hg3 (fun i hi=>.inl (own_int hown hi).1)⟩
    case measure=>simp [intOf];omega
   | false =>
    have hfil:(List.range (k+1)).filter (fun y=>lv y)=(List.range k).filter (fun y=>lv y):=by rw [List.range_succ,List.filter_append];simp [hx]
    have HF:=Lib.hid hfil
    clear hfil hx
    go_wp2
    go_roundw
    case rel=>exact ⟨k+1,by omega,by go_num,by rw [HF.out];exact hown,hgr⟩
    case measure=>simp [intOf];omega
  ·obtain rfl:k=8:=by omega
   go_wp2
   go_ret
   exact ⟨_,rfl,hown,hgr⟩
end
end
section
def opsL:Array Value:=#[.nilFunc,.func (.func 55) #[] #[],.func (.func 56) #[] #[],.func (.func 57) #[] #[],.func (.func 58) #[] #[],.func (.func 59) #[] #[],.func (.func 60) #[] #[],.func (.func 61) #[] #[],.func (.func 62) #[] #[],.func (.func 63) #[] #[],.func (.func 64) #[] #[],.func (.func 65) #[] #[],.func (.func 66) #[] #[],.func (.func 67) #[] #[],.func (.func 68) #[] #[],.func (.func 69) #[] #[]]
theorem info_ops:(Tryz.prog.info? 93).map (·.size)=some 16:=by kernel_rfl
section
variable {w w' w1 w2:World}
set_option maxHeartbeats 1000000 in
theorem operations_any (w:World):Calls Tryz.prog 34 #[] w fun e w'=>e=.returned (.agg opsL)∧w.grownBy w' none:=by
 obtain ⟨W0,hW0⟩:∃ W0,w.alloc (.cells #[.nilFunc,.nilFunc,.nilFunc,.nilFunc,.nilFunc,.nilFunc,.nilFunc,.nilFunc,.nilFunc,.nilFunc,.nilFunc,.nilFunc,.nilFunc,.nilFunc,.nilFunc,.nilFunc] 93)=W0:=⟨_,rfl⟩
 have hb:=Yab w (.cells #[.nilFunc,.nilFunc,.nilFunc,.nilFunc,.nilFunc,.nilFunc,.nilFunc,.nilFunc,.nilFunc,.nilFunc,.nilFunc,.nilFunc,.nilFunc,.nilFunc,.nilFunc,.nilFunc] 93)
 have hg0:=World.grownBy_alloc w (.cells #[.nilFunc,.nilFunc,.nilFunc,.nilFunc,.nilFunc,.nilFunc,.nilFunc,.nilFunc,.nilFunc,.nilFunc,.nilFunc,.nilFunc,.nilFunc,.nilFunc,.nilFunc,.nilFunc] 93) none
 rw [hW0] at hb hg0
 have hall:opsL.all (·.oneCell')=true:=by kernel_rfl
 have hsz:(Tryz.prog.info? 93).map (·.size)=some opsL.size:=info_ops
 have hle:0+opsL.size≤(#[.nilFunc,.nilFunc,.nilFunc,.nilFunc,.nilFunc,.nilFunc,.nilFunc,.nilFunc,.nilFunc,.nilFunc,.nilFunc,.nilFunc,.nilFunc,.nilFunc,.nilFunc,.nilFunc]:Array Value).size:=Nat.le_refl _
 have hu:Tryz.prog.underlying 93=some (.array 16 92):=by kernel_rfl
 go_enter Tryz.func34,Tryz.ntmps34
 go_wp2_with (refine Yae (ps:=opsL) rfl 93 _ _ rfl _ 0 rfl (by rfl) hb hle hsz hall ?_;intro W1 p1 g1)
 rw [Yau _ _ (by rfl)] at p1
 refine bodyPost_ret (v:=.agg opsL) (results_cell_row (by rfl) _ W1 w.heap.size 93 opsL (0,0) (.array 16 92) (by rfl) p1 hu rfl hsz) rfl ?_
 exact ⟨rfl,Yap (Yaa (Yam hg0 _) g1) (Nat.le_refl _)⟩
end
end
end Go.Proofs.YtfhiljglfhekdaaGreat
