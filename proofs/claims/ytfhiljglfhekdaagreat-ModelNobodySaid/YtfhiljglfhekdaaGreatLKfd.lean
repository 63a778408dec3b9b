/-
  Texts of one layer, one behind the other: memory, contracts of the functions, and what follows of them.
  Conditions: as each theorem says.
-/
import Derived.Test.YtfhiljglfhekdaaGreatLKfc
import Derived.Test.YtfhiljglfhekdaaGreatLMob
import Derived.Test.YtfhiljglfhekdaaGreatLKfa
import Derived.Test.YtfhiljglfhekdaaGreatLKfb
set_option linter.unusedVariables false
set_option linter.unusedSimpArgs false
set_option maxRecDepth 100000
namespace Go.Proofs.YtfhiljglfhekdaaGreat
open Go.RowKit
section
section
variable {w w' W:World} {F:Nat→Prop} {base all K c i:Nat} {v:Value} {S:MS} {x:OpM} {p:Nat} {A C:List (ByteArray × Nat)}
set_option maxHeartbeats 4000000 in
theorem rnam_destroy (h:StIs w F base v all S) (hF:Fine 64 S.E S.bs S.L) (hds:S.ds.length≤1000000) (hnm:S.nm.length≤1000000) (hFb:∀ g,F g→g<w.heap.size) (hbw:base≤w.heap.size) (hx:OpOk x) (hk:x.kind=10) (hok:nmOk x.name) (hnA:S.nm=A++(x.name,p)::C) (hA:∀ q∈A,¬ (q.1=x.name∨q.2=0)) (hp:p<18446744073709551616) :
  Calls Tryz.prog 51 #[v,.agg (opC x)] w fun e w'=>∃ v',e=.returned (.tuple #[v',.agg #[.int .i64 0,.int .u64 0,.int .u64 0]])∧StIs w' F base v' all { S with nm:=A++C,bs:=frB S.bs p,L:=frL S.bs S.L p,ds:=drpL S.ds p }∧w.grownBy w' none:=by
 obtain ⟨cs,rfl,hs0,hs1,hs00,hsl⟩:=h.cells
 have BX:=Ybf w cs (opC x)
 obtain ⟨W0,hW0⟩:∃ W0,((((w.alloc (.cells cs 36)).alloc (.cells (opC x) 41)).alloc (.cells sZ 36)).alloc (.cells rZ 46))=W0:=⟨_,rfl⟩
 rw [hW0] at BX
 have HST:=Lib.hid h
 have hpack:=fun V=>rpack14 x.name hx.name V
 have hname:=fun (V:World) (hg:w.grownBy V none)=>Ydn (h.later hg) hnm x.name 0
 obtain ⟨lo,elo⟩:∃ q,loD x.name=q:=⟨_,rfl⟩
 obtain ⟨hi,ehi⟩:∃ q,hiD x.name=q:=⟨_,rfl⟩
 simp only [elo,ehi] at hpack
 simp only [decide_eq_true hok] at hpack
 have HPACK:=Lib.hid hpack
 obtain ⟨i,ei⟩:∃ i,A.length=i:=⟨_,rfl⟩
 rw [nmdL_at hnA (.inl rfl) hA,ei] at hname
 replace hname:∀ V:World,w.grownBy V none→Calls Tryz.prog 81 #[.agg cs,.string x.name,.int .u64 0] V fun e w'=>e=.returned (.int .i64 (i:Nat))∧V.grownBy w' none:=hname
 have HNAME:=Lib.hid hname
 obtain ⟨na,nn,nc,hc12,hon,hmk⟩:=h.entries
 obtain ⟨a',c',e1,hcap,hpt,-⟩:=hon.ents
 injection e1 with k1 k2 k3
 obtain ⟨g',e4,hEA,hEC⟩:=hpt A C _ hnA
 obtain ⟨N,hN⟩:∃ N,S.nm.length=N:=⟨_,rfl⟩
 have hlen:N=i+1+C.length:=by rw [← hN,← ei,hnA,List.length_append,List.length_cons];omega
 have hlt:i<N:=by omega
 rw [hN] at k2 hcap hnm
 subst k2 k3 k1
 obtain ⟨a9,c9,g9,e9,e10,e11⟩:=hon.addr
 have e12:a9=na:=by injection e9 with q1 q2 q3;exact q1.symm
 have e13:=e10 (by omega)
 have eg:g9=g':=by rw [← e12,e13] at e4;injection e4 with e4;injection e4
 rw [e4] at hon hc12 hEA
 rw [eg] at e11
 have hrow:∀ V,w.grownBy V none→V.cell? ⟨g',i*2+1,none⟩=some (.int .u64 (p:Nat)):=fun V hV=>by
  have:=(e11 V (by rw [e4];exact hon.later hV) i (by omega)).2
  rw [this]
  unfold entO
  rw [hnA,← ei,getD_midP]
 have hEAL:=fun (V:World) (hg:w.grownBy V none)=>hEA.later hg
 have hECL:=fun (V:World) (hg:w.grownBy V none)=>hEC.later hg
 have hmk2:=fun (V:World) (ua:Option Addr) (um uc:Nat) (hg:w.grownBy V none) (ho:OwnN V base 86 (.slice ua um uc) (A++C))=>hmk V ua um uc _ hg ho
 have hfreed:=fun (V:World) (cs7:Array Value) (hg:w.grownBy V none) (hs:StIs V F base (.agg cs7) all { S with nm:=A++C })=>rfreed14 hs hF (by decide) hds (fun g k=>Nat.lt_of_lt_of_le (hFb g k) hg.size) (Nat.le_trans hbw hg.size) p
 have hECz:nc=i+1→∀ V:World,w.grownBy V none→Ycc V (some ⟨g',0,none⟩) C:=fun hcc V _=>⟨fun hC=>by omega⟩
 have hlti:(i:Int)<(nn:Int):=by omega
 have hi0:¬ (i:Int)<0:=by omega
 have hi6:i≤1000000:=by omega
 have hic:(i:Int)≤(nc:Int):=by omega
 have hi1:(i:Int)+1≤(nn:Int):=by omega
 have hbase5:=fun (V:World) (hg:w.grownBy V none)=>Nat.le_trans hbw hg.size
 have HB5:=Lib.hid hbase5
 have HA:Hid (A.length=i):=Lib.hid ei
 have HCL:Hid (C.length=nn - (i+1)):=Lib.hid (by omega)
 have HSUM:Hid (i+(nn - (i+1))≤1000000):=Lib.hid (by omega)
 rw [ei] at hECL
 have HNAME:=Lib.hid hname
 have HC:=Lib.hid hc12
 have HROW:=Lib.hid hrow
 have HEA:=Lib.hid hEAL
 have HMK:=Lib.hid hmk2
 have HFR:=Lib.hid hfreed
 have HN:=Lib.hid hN
 clear h hpack hname elo ehi hok hA hnA ei hon e11 hrow hc12 hN e4 e9 e10 e12 e13 eg hEA hEC hEAL hmk hmk2 hfreed hpt hF hlen hbase5 hlt
 obtain ⟨d0,d1,d2,d3,d4,d5,d6,d7⟩:=Yal BX.op
 rw [hk] at d0
 by_cases hcc:nc=i+1
 ·have HEC:=Lib.hid (hECz hcc)
  clear hECL hECz
  unfold sZ rZ at hW0
  go_enter Tryz.func51,Tryz.ntmps51
  go_wp2_with (first
   | (refine Yad rfl 36 _ rfl _ 0 rfl BX.st cs (fun j v hj=>by simpa using hj) _ Tryz.underlying36 rfl (by rw [Yai,hs0]) ?_)
   | (refine Yad rfl 41 _ rfl _ 0 rfl BX.op (opC x) (fun j v hj=>by simpa using hj) _ Tryz.underlying41 rfl Ybb ?_)
   | (go_at_call 80;(with_reducible refine (HPACK.out _).mono ?_);rintro e w1 ⟨rfl,hg1⟩;have ga:=World.grownBy_alloc w1 (.cells #[.int .u64 (lo:Nat),.int .u64 (hi:Nat)] 124) none;replace BX:=BX.later (Yaa hg1 ga);obtain ⟨d0,d1,d2,d3,d4,d5,d6,d7⟩:=Yal BX.op;rw [hk] at d0)
   | (go_at_call 81;(with_reducible refine (HNAME.out _ BX.gr).mono ?_);rintro e w4 ⟨rfl,hg4⟩;replace BX:=BX.later hg4;obtain ⟨d0,d1,d2,d3,d4,d5,d6,d7⟩:=Yal BX.op;rw [hk] at d0;have c12:=Yas BX.st HC.out;have cr:=HROW.out _ BX.gr;have hge:=World.grownBy_alloc w4 (.cells #[] 86) none;have hem:=own_emptyE w4 w4.heap.size (Nat.le_refl _);have c12a:=Yas (BX.later hge).st HC.out)
   | (at_builtin;(refine Ya2 hem (HEA.out _ (Yaa BX.gr hge)) rfl HA.out (Nat.le_trans (Nat.le_of_eq (Nat.zero_add _)) hi6) hge.size rfl _ _ rfl rfl rfl ?_);intro v5 w5 hv5 hg5;rw [List.nil_append] at hv5;have hg5n:w4.grownBy w5 none:=Yap (Yaa (Yam hge _) hg5) (Nat.le_refl _);have BX5:=BX.later hg5n;have c12:=Yas BX5.st HC.out)
   | (at_builtin;go_must (refine Ya2 hv5 (HEC.out _ BX5.gr) HA.out HCL.out HSUM.out hg5n.size rfl _ _ rfl rfl rfl ?_);intro v6 w6 hv6 hg6;have hg6n:w4.grownBy w6 none:=Yaj hg5n hg6 (fun i hi=>.inl (hv5.new hi));have hv6b:=hv6.mono (HB5.out _ BX.gr);obtain ⟨ua,uc,hv6f⟩:=hv6.form;obtain ⟨um,hum⟩:∃ q,(A++C).length=q:=⟨_,rfl⟩;rw [hum] at hv6f;subst hv6f;replace BX:=BX.later hg6n;have c12:=Yas BX.st HC.out;have z12:=Ydw BX.st 12;have hst7:=(HMK.out w6 ua um uc BX.gr hv6b).past (Yac w6 w.heap.size 12 (.slice ua um uc)) BX.st Ybt;have BX7:=BX.put 12 (.slice ua um uc);obtain ⟨cs7,ecs7⟩:∃ q,cs.setIfInBounds 12 (.slice ua um uc)=q:=⟨_,rfl⟩;rw [ecs7] at BX7 hst7;obtain ⟨u0,u1,-,-⟩:=hst7.one;obtain ⟨W7,hW7⟩:∃ W7,w6.setCell ⟨w.heap.size,12,none⟩ (.slice ua um uc)=W7:=⟨_,rfl⟩;rw [hW7] at BX7 hst7)
   | (refine Yad rfl 36 _ rfl _ 0 rfl BX7.st cs7 (fun j v hj=>by simpa using hj) _ Tryz.underlying36 rfl (by rw [Yai,u0]) ?_)
   | (go_at_call 41;(with_reducible refine (HFR.out _ _ BX7.gr hst7).mono ?_);rintro e w8 ⟨v8,rfl,hst8,hg8⟩;have BX8:=BX7.later hg8;obtain ⟨cs8,rfl,t0,t1,-,-⟩:=hst8.cells)
   | (refine Yae rfl 36 _ _ rfl _ 0 rfl rfl BX8.rs (by rw [t0];exact Nat.le_refl _) (by rw [Yai,t0]) t1 ?_;intro W1 p1 g1;rw [Yau _ _ t0] at p1;obtain ⟨y0,y1,y2⟩:=Yaf (BX8.res g1);obtain ⟨z0,z1,z2⟩:=Yak (BX8.res g1)))
  obtain ⟨q1,q2,q3,q4⟩:=BX8.done hst8 p1 g1 (e:=0) (p:=0) (q:=0)
  refine bodyPost_ret (Yav rfl _ rfl rfl q1 q2 Tryz.underlying36 rfl (by rw [Yai,t0]) Tryz.underlying46 rfl Ya0) rfl ?_
  exact ⟨_,rfl,q3,q4⟩
 ·have HEC:=Lib.hid (hECL)
  clear hECL hECz
  unfold sZ rZ at hW0
  go_enter Tryz.func51,Tryz.ntmps51
  go_wp2_with (first
   | (refine Yad rfl 36 _ rfl _ 0 rfl BX.st cs (fun j v hj=>by simpa using hj) _ Tryz.underlying36 rfl (by rw [Yai,hs0]) ?_)
   | (refine Yad rfl 41 _ rfl _ 0 rfl BX.op (opC x) (fun j v hj=>by simpa using hj) _ Tryz.underlying41 rfl Ybb ?_)
   | (go_at_call 80;(with_reducible refine (HPACK.out _).mono ?_);rintro e w1 ⟨rfl,hg1⟩;have ga:=World.grownBy_alloc w1 (.cells #[.int .u64 (lo:Nat),.int .u64 (hi:Nat)] 124) none;replace BX:=BX.later (Yaa hg1 ga);obtain ⟨d0,d1,d2,d3,d4,d5,d6,d7⟩:=Yal BX.op;rw [hk] at d0)
   | (go_at_call 81;(with_reducible refine (HNAME.out _ BX.gr).mono ?_);rintro e w4 ⟨rfl,hg4⟩;replace BX:=BX.later hg4;obtain ⟨d0,d1,d2,d3,d4,d5,d6,d7⟩:=Yal BX.op;rw [hk] at d0;have c12:=Yas BX.st HC.out;have cr:=HROW.out _ BX.gr;have hge:=World.grownBy_alloc w4 (.cells #[] 86) none;have hem:=own_emptyE w4 w4.heap.size (Nat.le_refl _);have c12a:=Yas (BX.later hge).st HC.out)
   | (at_builtin;(refine Ya2 hem (HEA.out _ (Yaa BX.gr hge)) rfl HA.out (Nat.le_trans (Nat.le_of_eq (Nat.zero_add _)) hi6) hge.size rfl _ _ rfl rfl rfl ?_);intro v5 w5 hv5 hg5;rw [List.nil_append] at hv5;have hg5n:w4.grownBy w5 none:=Yap (Yaa (Yam hge _) hg5) (Nat.le_refl _);have BX5:=BX.later hg5n;have c12:=Yas BX5.st HC.out)
   | (at_builtin;go_must (refine Ya2 hv5 (HEC.out _ BX5.gr) HA.out HCL.out HSUM.out hg5n.size rfl _ _ rfl rfl rfl ?_);intro v6 w6 hv6 hg6;have hg6n:w4.grownBy w6 none:=Yaj hg5n hg6 (fun i hi=>.inl (hv5.new hi));have hv6b:=hv6.mono (HB5.out _ BX.gr);obtain ⟨ua,uc,hv6f⟩:=hv6.form;obtain ⟨um,hum⟩:∃ q,(A++C).length=q:=⟨_,rfl⟩;rw [hum] at hv6f;subst hv6f;replace BX:=BX.later hg6n;have c12:=Yas BX.st HC.out;have z12:=Ydw BX.st 12;have hst7:=(HMK.out w6 ua um uc BX.gr hv6b).past (Yac w6 w.heap.size 12 (.slice ua um uc)) BX.st Ybt;have BX7:=BX.put 12 (.slice ua um uc);obtain ⟨cs7,ecs7⟩:∃ q,cs.setIfInBounds 12 (.slice ua um uc)=q:=⟨_,rfl⟩;rw [ecs7] at BX7 hst7;obtain ⟨u0,u1,-,-⟩:=hst7.one;obtain ⟨W7,hW7⟩:∃ W7,w6.setCell ⟨w.heap.size,12,none⟩ (.slice ua um uc)=W7:=⟨_,rfl⟩;rw [hW7] at BX7 hst7)
   | (refine Yad rfl 36 _ rfl _ 0 rfl BX7.st cs7 (fun j v hj=>by simpa using hj) _ Tryz.underlying36 rfl (by rw [Yai,u0]) ?_)
   | (go_at_call 41;(with_reducible refine (HFR.out _ _ BX7.gr hst7).mono ?_);rintro e w8 ⟨v8,rfl,hst8,hg8⟩;have BX8:=BX7.later hg8;obtain ⟨cs8,rfl,t0,t1,-,-⟩:=hst8.cells)
   | (refine Yae rfl 36 _ _ rfl _ 0 rfl rfl BX8.rs (by rw [t0];exact Nat.le_refl _) (by rw [Yai,t0]) t1 ?_;intro W1 p1 g1;rw [Yau _ _ t0] at p1;obtain ⟨y0,y1,y2⟩:=Yaf (BX8.res g1);obtain ⟨z0,z1,z2⟩:=Yak (BX8.res g1)))
  obtain ⟨q1,q2,q3,q4⟩:=BX8.done hst8 p1 g1 (e:=0) (p:=0) (q:=0)
  refine bodyPost_ret (Yav rfl _ rfl rfl q1 q2 Tryz.underlying36 rfl (by rw [Yai,t0]) Tryz.underlying46 rfl Ya0) rfl ?_
  exact ⟨_,rfl,q3,q4⟩
end
end
section
theorem two_boxes (w:World):((w.alloc (.cells sZ 36)).alloc (.cells rZ 46)).heap[w.heap.size]?=some (.cells sZ 36 (0,0))∧((w.alloc (.cells sZ 36)).alloc (.cells rZ 46)).heap[w.heap.size+1]?=some (.cells rZ 46 (0,0))∧w.grownBy ((w.alloc (.cells sZ 36)).alloc (.cells rZ 46)) none:=by
 have b1:=Yab w (.cells sZ 36)
 have b2:=Yab (w.alloc (.cells sZ 36)) (.cells rZ 46)
 rw [World.size_alloc] at b2
 have g1:=World.grownBy_alloc w (.cells sZ 36) none
 have g2:=World.grownBy_alloc (w.alloc (.cells sZ 36)) (.cells rZ 46) none
 exact ⟨(g2.block _ (lt_of_block b1) (by simp)).trans b1,b2,Yaa g1 g2⟩
theorem ents_lit (W:World) (s:ByteArray) (p:Nat):Ycc (W.alloc (.cells #[.string s,.int .u64 (p:Nat)] 86)) (some ⟨W.heap.size,0,none⟩) [(s,p)]:=by
 have hb:=Yab W (.cells #[.string s,.int .u64 (p:Nat)] 86)
 refine ⟨fun _=>⟨W.heap.size,0,rfl,lt_of_block hb,fun k hk=>?_⟩⟩
 have hk0:k=0:=by simp at hk;exact hk
 subst hk0
 exact ⟨Yas hb rfl,Yas hb rfl⟩
section
variable {w w' W:World} {F:Nat→Prop} {base all K c i:Nat} {v:Value} {S:MS} {x:OpM} {p:Nat} {A C:List (ByteArray × Nat)}
set_option maxHeartbeats 4000000 in
theorem rnam_consNo (h:StIs w F base v all S) (hF:Fine 64 S.E S.bs S.L) (hds:S.ds.length≤1000000) (hnm:S.nm.length≤1000000) (hFb:∀ g,F g→g<w.heap.size) (hbw:base≤w.heap.size) (hx:OpOk x) (hk:x.kind=8) (hok:nmOk x.name) (hn:∀ q∈S.nm,¬ (q.1=x.name∨q.2=0)) (hf:S.nm.length<16) (hft:Yax S.bs x.n 16≠0) :
  Calls Tryz.prog 51 #[v,.agg (opC x)] w fun e w'=>∃ v',e=.returned (.tuple #[v',.agg #[.int .i64 (Yax S.bs x.n 16:Nat),.int .u64 0,.int .u64 0]])∧StIs w' F base v' all S∧w.grownBy w' none:=by
 obtain ⟨cs,rfl,hs0,hs1,hs00,hsl⟩:=h.cells
 have BX:=Ybf w cs (opC x)
 obtain ⟨W0,hW0⟩:∃ W0,((((w.alloc (.cells cs 36)).alloc (.cells (opC x) 41)).alloc (.cells sZ 36)).alloc (.cells rZ 46))=W0:=⟨_,rfl⟩
 rw [hW0] at BX
 have HST:=Lib.hid h
 have hpack:=fun V=>rpack14 x.name hx.name V
 have hname:=fun (V:World) (hg:w.grownBy V none)=>Ydn (h.later hg) hnm x.name 0
 obtain ⟨lo,elo⟩:∃ q,loD x.name=q:=⟨_,rfl⟩
 obtain ⟨hi,ehi⟩:∃ q,hiD x.name=q:=⟨_,rfl⟩
 simp only [elo,ehi] at hpack
 simp only [decide_eq_true hok] at hpack
 have HPACK:=Lib.hid hpack
 rw [nmdL_no hn] at hname
 replace hname:∀ V:World,w.grownBy V none→Calls Tryz.prog 81 #[.agg cs,.string x.name,.int .u64 0] V fun e w'=>e=.returned (.int .i64 (-1))∧V.grownBy w' none:=hname
 obtain ⟨na,nn,nc,hc12,hon,-⟩:=h.entries
 have hnn:nn=S.nm.length:=by
  obtain ⟨a',c',e⟩:=hon.form
  injection e
 have h16:¬ (16:Int)≤(nn:Int):=by omega
 have htake:=fun (V:World) (hg:w.grownBy V none)=>rtake14 (h.later hg) hF (by decide) hds (fun g k=>Nat.lt_of_lt_of_le (hFb g k) hg.size) (Nat.le_trans hbw hg.size) 0 x.n 16 (by decide) hx.n (by decide)
 obtain ⟨S5,eS5⟩:∃ q,mTk S 0 x.n 16=q:=⟨_,rfl⟩
 obtain ⟨er,eer⟩:∃ q,Yax S.bs x.n 16=q:=⟨_,rfl⟩
 obtain ⟨rp,erp⟩:∃ q,mtP S.bs x.n 16=q:=⟨_,rfl⟩
 simp only [eS5,eer,erp] at htake
 have hS5:S5=S:=by rw [← eS5];exact mTk_no hft
 have hrp:rp=0:=by rw [← erp];unfold mtP;rw [if_neg hft]
 rw [eer] at hft ⊢
 subst hS5
 have her:¬ (er:Int)=0:=by omega
 have her2:((er:Int) == 0)=false:=by simpa using her
 have HRP:=Lib.hid hrp
 clear hrp
 replace htake:∀ V:World,w.grownBy V none→Calls Tryz.prog 49 #[.agg cs,.int .i64 0,.int .u64 x.n,.int .u64 16] V fun e w'=>∃ v',e=.returned (.tuple #[v',.agg #[.int .i64 (er:Nat),.int .u64 (rp:Nat),.int .u64 0]])∧StIs w' F base v' all S5∧V.grownBy w' none:=htake
 have HTAKE:=Lib.hid htake
 have HNAME:=Lib.hid hname
 have HC:=Lib.hid hc12
 clear hpack htake hname elo ehi hok hn hf hnn hc12 hon eS5 eer erp hF h
 obtain ⟨d0,d1,d2,d3,d4,d5,d6,d7⟩:=Yal BX.op
 rw [hk] at d0
 unfold sZ rZ at hW0
 go_enter Tryz.func51,Tryz.ntmps51
 go_wp2_with (first
  | (refine Yad rfl 36 _ rfl _ 0 rfl BX.st cs (fun j v hj=>by simpa using hj) _ Tryz.underlying36 rfl (by rw [Yai,hs0]) ?_)
  | (refine Yad rfl 41 _ rfl _ 0 rfl BX.op (opC x) (fun j v hj=>by simpa using hj) _ Tryz.underlying41 rfl Ybb ?_)
  | (go_at_call 80;(with_reducible refine (HPACK.out _).mono ?_);rintro e w1 ⟨rfl,hg1⟩;have ga:=World.grownBy_alloc w1 (.cells #[.int .u64 (lo:Nat),.int .u64 (hi:Nat)] 124) none;replace BX:=BX.later (Yaa hg1 ga);obtain ⟨d0,d1,d2,d3,d4,d5,d6,d7⟩:=Yal BX.op;rw [hk] at d0)
  | (go_at_call 81;(with_reducible refine (HNAME.out _ BX.gr).mono ?_);rintro e w4 ⟨rfl,hg4⟩;replace BX:=BX.later hg4;obtain ⟨d0,d1,d2,d3,d4,d5,d6,d7⟩:=Yal BX.op;rw [hk] at d0;have c12:=Yas BX.st HC.out;have BX5s:=Lib.hid (lt_of_block BX.rr))
  | (go_at_call 49;(with_reducible refine (HTAKE.out _ BX.gr).mono ?_);rintro e w5 ⟨v5,rfl,hst5,hg5⟩;replace BX:=BX.later hg5;obtain ⟨cs5,rfl,t0,t1,-,-⟩:=hst5.cells;obtain ⟨bT,bR,ga5⟩:=two_boxes w5;obtain ⟨Wa,hWa⟩:∃ Wa,(w5.alloc (.cells sZ 36)).alloc (.cells rZ 46)=Wa:=⟨_,rfl⟩;rw [hWa] at bT bR ga5;have hWb:=hWa;unfold sZ rZ at hWa)
  | (refine Yae rfl 36 _ _ rfl _ 0 rfl rfl bT (by rw [t0];exact Nat.le_refl _) (by rw [Yai,t0]) t1 ?_;intro Wb pb gb;rw [Yau _ _ t0] at pb;have bR1:=(gb.block _ (lt_of_block bR) (by simp)).trans bR;obtain ⟨y0,y1,y2⟩:=Yaf bR1;obtain ⟨z0,z1,z2⟩:=Yak bR1;have pR:=Yaz bR1 (x':=.int .i64 (er:Nat)) (y':=.int .u64 (rp:Nat)) (z':=.int .u64 0);have gc:Wb.grownBy (((Wb.setCell ⟨w5.heap.size+1,0,none⟩ (.int .i64 (er:Nat))).setCell ⟨w5.heap.size+1,1,none⟩ (.int .u64 (rp:Nat))).setCell ⟨w5.heap.size+1,2,none⟩ (.int .u64 0)) (some (w5.heap.size+1)):=Yaa (Yac _ _ _ _) (Yaa (Yac _ _ _ _) (Yac _ _ _ _));have pT:=(gc.block _ (lt_of_block pb) (by simp)).trans pb;have GC:=Yaj (Yaj ga5 gb (fun i hi=>.inl (by injection hi with hi;omega))) gc (fun i hi=>.inl (by injection hi with hi;omega));obtain ⟨Wc,hWc⟩:∃ Wc,((Wb.setCell ⟨w5.heap.size+1,0,none⟩ (.int .i64 (er:Nat))).setCell ⟨w5.heap.size+1,1,none⟩ (.int .u64 (rp:Nat))).setCell ⟨w5.heap.size+1,2,none⟩ (.int .u64 0)=Wc:=⟨_,rfl⟩;rw [hWc] at pR pT GC;replace BX:=BX.later GC;have hst6:=hst5.later GC;have hsz5:=hg4.size;have hbx5:=BX5s.out;obtain ⟨k0,k1,k2⟩:=Yaf pR))
 have hlt5:w.heap.size+1+1+1<w5.heap.size:=Nat.lt_of_lt_of_le BX5s.out hg5.size
 have BXd:=BX.later (Yah (Yag Wc none))
 have hTd:Wc.drew.heap[w5.heap.size]?=some (.cells cs5 36 (0,0)):=pT
 have hRd:Wc.drew.heap[w5.heap.size+1]?=some (.cells #[.int .i64 (er:Nat),.int .u64 (rp:Nat),.int .u64 0] 46 (0,0)):=pR
 obtain ⟨r0,r1,r2⟩:=Yaf hRd
 have hst9:=hst6.later (Yah (Yag Wc none))
 refine wp_region_held_drew (S:=fun U=>U.heap[w5.heap.size]?=some (.cells cs5 36 (0,0))∧U.cell? ⟨w5.heap.size+1,0,none⟩=some (.int .i64 (er:Nat))∧U.cell? ⟨w5.heap.size+1,1,none⟩=some (.int .u64 (rp:Nat))∧U.cell? ⟨w5.heap.size+1,2,none⟩=some (.int .u64 0)) (by kernel_rfl) ⟨hTd,r0,r1,r2⟩ (fun hHeld=>?_)
 refine hY 0 108 (v:=.agg cs5) rfl rfl hHeld ?y0 ?r0
 case y0=>exact Ycz 36 _ rfl _ 0 rfl (fun W hW=>hW.1) cs5 (fun j v hj=>by simpa using hj) _ Tryz.underlying36 rfl (by rw [Yai,t0])
 case r0 =>
 simp only [Act.put,List.setIfInBounds_toArray,List.set_cons_zero,List.set_cons_succ]
 refine hY 1 109 (v:=?_) rfl rfl hHeld ?y1 ?r1
 case y1=>(intro w hSw;(try dsimp only at hSw);go_simp;try (with_reducible rfl))
 case r1 =>
 simp only [Act.put,List.setIfInBounds_toArray,List.set_cons_zero,List.set_cons_succ]
 refine wpAnyH_ready (rs:=[2]) (by kernel_rfl) (by simp) (AllReadyH.cons rfl (fun K hK=>?_) AllReadyH.nil)
 refine Ybe rfl 36 _ _ rfl _ 0 rfl rfl BXd.rs (by rw [t0];exact Nat.le_refl _) (by rw [Yai,t0]) t1 ?_
 intro W1 p1 g1
 rw [Yau _ _ t0] at p1
 have hS1:W1.heap[w5.heap.size]?=some (.cells cs5 36 (0,0))∧W1.heap[w5.heap.size+1]?=some (.cells #[.int .i64 (er:Nat),.int .u64 (rp:Nat),.int .u64 0] 46 (0,0)):=⟨(g1.block _ (lt_of_block hTd) (by simp <;> omega)).trans hTd,(g1.block _ (lt_of_block hRd) (by simp <;> omega)).trans hRd⟩
 obtain ⟨r0,r1,r2⟩:=Yaf hS1.2
 obtain ⟨y0,y1,y2⟩:=Yaf (BXd.res g1)
 obtain ⟨z0,z1,z2⟩:=Yak (BXd.res g1)
 refine hK.out _ _ ⟨hS1.1,r0,r1,r2⟩ (fun hHeld=>?_)
 clear hK K
 simp only [Act.put,List.setIfInBounds_toArray,List.set_cons_zero,List.set_cons_succ]
 refine wpAnyH_ready (rs:=[3]) (by kernel_rfl) (by simp) (AllReadyH.cons rfl (fun K hK=>?_) AllReadyH.nil)
 have hS2:∀ a b c:Value,(((W1.setCell ⟨w.heap.size+1+1+1,0,none⟩ a).setCell ⟨w.heap.size+1+1+1,1,none⟩ b).setCell ⟨w.heap.size+1+1+1,2,none⟩ c).heap[w5.heap.size]?=some (.cells cs5 36 (0,0))∧(((W1.setCell ⟨w.heap.size+1+1+1,0,none⟩ a).setCell ⟨w.heap.size+1+1+1,1,none⟩ b).setCell ⟨w.heap.size+1+1+1,2,none⟩ c).cell? ⟨w5.heap.size+1,0,none⟩=some (.int .i64 (er:Nat))∧(((W1.setCell ⟨w.heap.size+1+1+1,0,none⟩ a).setCell ⟨w.heap.size+1+1+1,1,none⟩ b).setCell ⟨w.heap.size+1+1+1,2,none⟩ c).cell? ⟨w5.heap.size+1,1,none⟩=some (.int .u64 (rp:Nat))∧(((W1.setCell ⟨w.heap.size+1+1+1,0,none⟩ a).setCell ⟨w.heap.size+1+1+1,1,none⟩ b).setCell ⟨w.heap.size+1+1+1,2,none⟩ c).cell? ⟨w5.heap.size+1,2,none⟩=some (.int .u64 0):=fun a b c=>by
  have g2:W1.grownBy (((W1.setCell ⟨w.heap.size+1+1+1,0,none⟩ a).setCell ⟨w.heap.size+1+1+1,1,none⟩ b).setCell ⟨w.heap.size+1+1+1,2,none⟩ c) (some (w.heap.size+1+1+1)):=Yaa (Yac _ _ _ _) (Yaa (Yac _ _ _ _) (Yac _ _ _ _))
  have h2:=(g2.block _ (lt_of_block hS1.2) (by simp <;> omega)).trans hS1.2
  obtain ⟨m0,m1,m2⟩:=Yaf h2
  exact ⟨(g2.block _ (lt_of_block hS1.1) (by simp <;> omega)).trans hS1.1,m0,m1,m2⟩
 have HS2:=Lib.hid hS2
 have HBX:=Lib.hid BXd
 have HST9:=Lib.hid hst9
 clear hS2 hS1 hst9 BXd hst6 hTd hRd
 go_simp
 refine hK.out _ _ (HS2.out _ _ _) (fun hHeld=>?_)
 clear hK K
 try simp only [Act.put,List.setIfInBounds_toArray,List.set_cons_zero,List.set_cons_succ]
 refine wpAnyH_done (by kernel_rfl) ?_ _
 go_wp2
 obtain ⟨q1,q2,q3,q4⟩:=HBX.out.done HST9.out p1 g1 (e:=(er:Nat)) (p:=rp) (q:=0)
 refine bodyPost_ret (Yav rfl _ rfl rfl q1 q2 Tryz.underlying36 rfl (by rw [Yai,t0]) Tryz.underlying46 rfl Ya0) rfl ?_
 have hrp:=HRP.out
 subst hrp
 exact ⟨_,rfl,q3,q4⟩
theorem Bx.later8 {cs oc ct:Array Value} {b:Nat} {W':World} (h:Bx w W cs oc) (g:W.grownBy W' (some b)) (hb:W.heap[b]?=some (.cells ct 36 (0,0))) (hlt:w.heap.size+1+1+1<b):Bx w W' cs oc :=
 ⟨(g.block _ (lt_of_block h.st) (by simp <;> omega)).trans h.st,(g.block _ (lt_of_block h.op) (by simp <;> omega)).trans h.op,(g.block _ (lt_of_block h.rs) (by simp <;> omega)).trans h.rs,(g.block _ (lt_of_block h.rr) (by simp <;> omega)).trans h.rr,Yaj h.gr g (fun i hi=>.inl (by injection hi with hi;omega))⟩
set_option maxHeartbeats 4000000 in
theorem rnam_cons (h:StIs w F base v all S) (hF:Fine 64 S.E S.bs S.L) (hds:S.ds.length≤1000000) (hnm:S.nm.length≤1000000) (hFb:∀ g,F g→g<w.heap.size) (hbw:base≤w.heap.size) (hx:OpOk x) (hk:x.kind=8) (hok:nmOk x.name) (hn:∀ q∈S.nm,¬ (q.1=x.name∨q.2=0)) (hf:S.nm.length<16) (hft:Yax S.bs x.n 16=0) :
  Calls Tryz.prog 51 #[v,.agg (opC x)] w fun e w'=>∃ v',e=.returned (.tuple #[v',.agg #[.int .i64 0,.int .u64 (mtP S.bs x.n 16:Nat),.int .u64 0]])∧StIs w' F base v' all { mTk S 0 x.n 16 with nm:=S.nm++[(x.name,mtP S.bs x.n 16)] }∧w.grownBy w' none:=by
 obtain ⟨cs,rfl,hs0,hs1,hs00,hsl⟩:=h.cells
 have BX:=Ybf w cs (opC x)
 obtain ⟨W0,hW0⟩:∃ W0,((((w.alloc (.cells cs 36)).alloc (.cells (opC x) 41)).alloc (.cells sZ 36)).alloc (.cells rZ 46))=W0:=⟨_,rfl⟩
 rw [hW0] at BX
 have HST:=Lib.hid h
 have hpack:=fun V=>rpack14 x.name hx.name V
 have hname:=fun (V:World) (hg:w.grownBy V none)=>Ydn (h.later hg) hnm x.name 0
 obtain ⟨lo,elo⟩:∃ q,loD x.name=q:=⟨_,rfl⟩
 obtain ⟨hi,ehi⟩:∃ q,hiD x.name=q:=⟨_,rfl⟩
 simp only [elo,ehi] at hpack
 simp only [decide_eq_true hok] at hpack
 have HPACK:=Lib.hid hpack
 rw [nmdL_no hn] at hname
 replace hname:∀ V:World,w.grownBy V none→Calls Tryz.prog 81 #[.agg cs,.string x.name,.int .u64 0] V fun e w'=>e=.returned (.int .i64 (-1))∧V.grownBy w' none:=hname
 obtain ⟨na,nn,nc,hc12,hon,-⟩:=h.entries
 have hnn:nn=S.nm.length:=by
  obtain ⟨a',c',e⟩:=hon.form
  injection e
 have h16:¬ (16:Int)≤(nn:Int):=by omega
 have htake:=fun (V:World) (hg:w.grownBy V none)=>rtake14 (h.later hg) hF (by decide) hds (fun g k=>Nat.lt_of_lt_of_le (hFb g k) hg.size) (Nat.le_trans hbw hg.size) 0 x.n 16 (by decide) hx.n (by decide)
 obtain ⟨S5,eS5⟩:∃ q,mTk S 0 x.n 16=q:=⟨_,rfl⟩
 obtain ⟨er,eer⟩:∃ q,Yax S.bs x.n 16=q:=⟨_,rfl⟩
 obtain ⟨rp,erp⟩:∃ q,mtP S.bs x.n 16=q:=⟨_,rfl⟩
 simp only [eS5,eer,erp] at htake
 have hnm5:S5.nm=S.nm:=by rw [← eS5];unfold mTk;split <;> rfl
 rw [eer] at hft
 subst hft
 rw [erp,eS5]
 replace htake:∀ V:World,w.grownBy V none→Calls Tryz.prog 49 #[.agg cs,.int .i64 0,.int .u64 x.n,.int .u64 16] V fun e w'=>∃ v',e=.returned (.tuple #[v',.agg #[.int .i64 0,.int .u64 (rp:Nat),.int .u64 0]])∧StIs w' F base v' all S5∧V.grownBy w' none:=htake
 have HTAKE:=Lib.hid htake
 have HNAME:=Lib.hid hname
 have HC:=Lib.hid hc12
 have HNM:=Lib.hid hnm5
 have HNL:=Lib.hid hnm
 have HNL1:Hid (S.nm.length+1≤1000000):=Lib.hid (by omega)
 have HBW:=Lib.hid hbw
 clear hpack htake hname elo ehi hok hn hf hnn hc12 hon eS5 eer erp hF h hnm5 hnm
 obtain ⟨d0,d1,d2,d3,d4,d5,d6,d7⟩:=Yal BX.op
 rw [hk] at d0
 unfold sZ rZ at hW0
 go_enter Tryz.func51,Tryz.ntmps51
 go_wp2_with (first
  | (refine Yad rfl 36 _ rfl _ 0 rfl BX.st cs (fun j v hj=>by simpa using hj) _ Tryz.underlying36 rfl (by rw [Yai,hs0]) ?_)
  | (refine Yad rfl 41 _ rfl _ 0 rfl BX.op (opC x) (fun j v hj=>by simpa using hj) _ Tryz.underlying41 rfl Ybb ?_)
  | (go_at_call 80;(with_reducible refine (HPACK.out _).mono ?_);rintro e w1 ⟨rfl,hg1⟩;have ga:=World.grownBy_alloc w1 (.cells #[.int .u64 (lo:Nat),.int .u64 (hi:Nat)] 124) none;replace BX:=BX.later (Yaa hg1 ga);obtain ⟨d0,d1,d2,d3,d4,d5,d6,d7⟩:=Yal BX.op;rw [hk] at d0)
  | (go_at_call 81;(with_reducible refine (HNAME.out _ BX.gr).mono ?_);rintro e w4 ⟨rfl,hg4⟩;replace BX:=BX.later hg4;obtain ⟨d0,d1,d2,d3,d4,d5,d6,d7⟩:=Yal BX.op;rw [hk] at d0;have c12:=Yas BX.st HC.out;have BX5s:=Lib.hid (lt_of_block BX.rr))
  | (go_at_call 49;(with_reducible refine (HTAKE.out _ BX.gr).mono ?_);rintro e w5 ⟨v5,rfl,hst5,hg5⟩;replace BX:=BX.later hg5;obtain ⟨cs5,rfl,t0,t1,-,-⟩:=hst5.cells;obtain ⟨bT,bR,ga5⟩:=two_boxes w5;obtain ⟨Wa,hWa⟩:∃ Wa,(w5.alloc (.cells sZ 36)).alloc (.cells rZ 46)=Wa:=⟨_,rfl⟩;rw [hWa] at bT bR ga5;have hWb:=hWa;unfold sZ rZ at hWa)
  | (refine Yae rfl 36 _ _ rfl _ 0 rfl rfl bT (by rw [t0];exact Nat.le_refl _) (by rw [Yai,t0]) t1 ?_;intro Wb pb gb;rw [Yau _ _ t0] at pb;have bR1:=(gb.block _ (lt_of_block bR) (by simp)).trans bR;obtain ⟨y0,y1,y2⟩:=Yaf bR1;obtain ⟨z0,z1,z2⟩:=Yak bR1;have pR:=Yaz bR1 (x':=.int .i64 0) (y':=.int .u64 (rp:Nat)) (z':=.int .u64 0);have gc:Wb.grownBy (((Wb.setCell ⟨w5.heap.size+1,0,none⟩ (.int .i64 0)).setCell ⟨w5.heap.size+1,1,none⟩ (.int .u64 (rp:Nat))).setCell ⟨w5.heap.size+1,2,none⟩ (.int .u64 0)) (some (w5.heap.size+1)):=Yaa (Yac _ _ _ _) (Yaa (Yac _ _ _ _) (Yac _ _ _ _));have pT:=(gc.block _ (lt_of_block pb) (by simp)).trans pb;have GC:=Yaj (Yaj ga5 gb (fun i hi=>.inl (by injection hi with hi;omega))) gc (fun i hi=>.inl (by injection hi with hi;omega));obtain ⟨Wc,hWc⟩:∃ Wc,((Wb.setCell ⟨w5.heap.size+1,0,none⟩ (.int .i64 0)).setCell ⟨w5.heap.size+1,1,none⟩ (.int .u64 (rp:Nat))).setCell ⟨w5.heap.size+1,2,none⟩ (.int .u64 0)=Wc:=⟨_,rfl⟩;rw [hWc] at pR pT GC;replace BX:=BX.later GC;have hst6:=hst5.later GC;have hsz5:=hg4.size;have hbx5:=BX5s.out;obtain ⟨k0,k1,k2⟩:=Yaf pR;obtain ⟨na5,nn5,nc5,hc5,hon5,hmk5⟩:=hst6.entries;have HC5:=Lib.hid hc5;have c12c:=Yas pT hc5;obtain ⟨a5,c5,e5,-,-,hEN⟩:=hon5.ents;have hEN':Ycc Wc na5 S5.nm:=(by injection e5 with q1 q2 q3;rw [q1];exact hEN);have hnn5:S5.nm.length=nn5:=(by injection e5 with q1 q2 q3;exact q2.symm);rw [HNM.out] at hEN' hnn5;have HEN:=Lib.hid hEN';have HNN:=Lib.hid hnn5;have hn6:nn5≤1000000:=(by rw [← hnn5];exact HNL.out);have hn61:nn5+1≤1000000:=(by rw [← hnn5];exact HNL1.out);have hge:=World.grownBy_alloc Wc (.cells #[] 86) none;have hem:=own_emptyE Wc Wc.heap.size (Nat.le_refl _);have HMK:=Lib.hid hmk5;have HB5:=Lib.hid (Nat.le_trans HBW.out BX.gr.size);have HLT5:Hid (w.heap.size+1+1+1<w5.heap.size):=Lib.hid (Nat.lt_of_lt_of_le BX5s.out hg5.size);have BXa:=BX.later hge;have pTa:=(hge.block _ (lt_of_block pT) (by simp)).trans pT;have c12a:=Yas pTa hc5;clear e5 hnn5 hc5)
  | (at_builtin;(refine Ya2 hem (HEN.out.later hge) rfl HNN.out (Nat.le_trans (Nat.le_of_eq (Nat.zero_add _)) hn6) hge.size rfl _ _ rfl rfl rfl ?_);intro v6 w6 hv6 hg6;rw [List.nil_append] at hv6;have hg6n:Wc.grownBy w6 none:=Yap (Yaa (Yam hge _) hg6) (Nat.le_refl _);have BX6:=BX.later hg6n;obtain ⟨d0,d1,d2,d3,d4,d5,d6,d7⟩:=Yal BX6.op;have pR6:=(hg6n.block _ (lt_of_block pR) (by simp)).trans pR;obtain ⟨k0,k1,k2⟩:=Yaf pR6;have hlit:=ents_lit w6 x.name rp;have hgl:=World.grownBy_alloc w6 (.cells #[.string x.name,.int .u64 (rp:Nat)] 86) none)
  | (at_builtin;go_must (refine Ya2 (hv6.later hgl) hlit HNN.out rfl hn61 (Nat.le_trans hg6n.size hgl.size) rfl _ _ rfl rfl rfl ?_);intro v7 w7 hv7 hg7;have hg7n:Wc.grownBy w7 none:=Yaj (Yaa hg6n hgl) hg7 (fun i hi=>.inl (hv6.new hi));have hv7b:=hv7.mono HB5.out;obtain ⟨ua,uc,hv7f⟩:=hv7.form;obtain ⟨um,hum⟩:∃ q,(S.nm++[(x.name,rp)]).length=q:=⟨_,rfl⟩;rw [hum] at hv7f;subst hv7f;have BX7:=BX.later hg7n;have pT7:=(hg7n.block _ (lt_of_block pT) (by simp)).trans pT;have pR7:=(hg7n.block _ (lt_of_block pR) (by simp)).trans pR;have c12t:=Yas pT7 HC5.out;have z12t:=Ydw pT7 12;have gs:=Yac w7 w5.heap.size 12 (.slice ua um uc);have hst8:=(HMK.out w7 ua um uc _ hg7n hv7b).past gs pT7 Ybt;have pT8:=Yb7 (k:=12) (v:=.slice ua um uc) pT7;have pR8:=(gs.block _ (lt_of_block pR7) (by simp)).trans pR7;have BX8:=BX7.later8 gs pT7 HLT5.out;obtain ⟨cs8,ecs8⟩:∃ q,cs5.setIfInBounds 12 (.slice ua um uc)=q:=⟨_,rfl⟩;rw [ecs8] at pT8 hst8;obtain ⟨u0,u1,-,-⟩:=hst8.one;obtain ⟨W8,hW8⟩:∃ W8,w7.setCell ⟨w5.heap.size,12,none⟩ (.slice ua um uc)=W8:=⟨_,rfl⟩;rw [hW8] at pT8 pR8 hst8 BX8))
 have hlt5:w.heap.size+1+1+1<w5.heap.size:=Nat.lt_of_lt_of_le BX5s.out hg5.size
 have BXd:=BX8.later (Yah (Yag W8 none))
 have hTd:W8.drew.heap[w5.heap.size]?=some (.cells cs8 36 (0,0)):=pT8
 have hRd:W8.drew.heap[w5.heap.size+1]?=some (.cells #[.int .i64 0,.int .u64 (rp:Nat),.int .u64 0] 46 (0,0)):=pR8
 obtain ⟨r0,r1,r2⟩:=Yaf hRd
 have hst9:=hst8.later (Yah (Yag W8 none))
 refine wp_region_held_drew (S:=fun U=>U.heap[w5.heap.size]?=some (.cells cs8 36 (0,0))∧U.cell? ⟨w5.heap.size+1,0,none⟩=some (.int .i64 0)∧U.cell? ⟨w5.heap.size+1,1,none⟩=some (.int .u64 (rp:Nat))∧U.cell? ⟨w5.heap.size+1,2,none⟩=some (.int .u64 0)) (by kernel_rfl) ⟨hTd,r0,r1,r2⟩ (fun hHeld=>?_)
 refine hY 0 108 (v:=.agg cs8) rfl rfl hHeld ?y0 ?r0
 case y0=>exact Ycz 36 _ rfl _ 0 rfl (fun W hW=>hW.1) cs8 (fun j v hj=>by simpa using hj) _ Tryz.underlying36 rfl (by rw [Yai,u0])
 case r0 =>
 simp only [Act.put,List.setIfInBounds_toArray,List.set_cons_zero,List.set_cons_succ]
 refine hY 1 109 (v:=?_) rfl rfl hHeld ?y1 ?r1
 case y1=>(intro w hSw;(try dsimp only at hSw);go_simp;try (with_reducible rfl))
 case r1 =>
 simp only [Act.put,List.setIfInBounds_toArray,List.set_cons_zero,List.set_cons_succ]
 refine wpAnyH_ready (rs:=[2]) (by kernel_rfl) (by simp) (AllReadyH.cons rfl (fun K hK=>?_) AllReadyH.nil)
 refine Ybe rfl 36 _ _ rfl _ 0 rfl rfl BXd.rs (by rw [u0];exact Nat.le_refl _) (by rw [Yai,u0]) u1 ?_
 intro W1 p1 g1
 rw [Yau _ _ u0] at p1
 have hS1:W1.heap[w5.heap.size]?=some (.cells cs8 36 (0,0))∧W1.heap[w5.heap.size+1]?=some (.cells #[.int .i64 0,.int .u64 (rp:Nat),.int .u64 0] 46 (0,0)):=⟨(g1.block _ (lt_of_block hTd) (by simp <;> omega)).trans hTd,(g1.block _ (lt_of_block hRd) (by simp <;> omega)).trans hRd⟩
 obtain ⟨r0,r1,r2⟩:=Yaf hS1.2
 obtain ⟨y0,y1,y2⟩:=Yaf (BXd.res g1)
 obtain ⟨z0,z1,z2⟩:=Yak (BXd.res g1)
 refine hK.out _ _ ⟨hS1.1,r0,r1,r2⟩ (fun hHeld=>?_)
 clear hK K
 simp only [Act.put,List.setIfInBounds_toArray,List.set_cons_zero,List.set_cons_succ]
 refine wpAnyH_ready (rs:=[3]) (by kernel_rfl) (by simp) (AllReadyH.cons rfl (fun K hK=>?_) AllReadyH.nil)
 have hS2:∀ a b c:Value,(((W1.setCell ⟨w.heap.size+1+1+1,0,none⟩ a).setCell ⟨w.heap.size+1+1+1,1,none⟩ b).setCell ⟨w.heap.size+1+1+1,2,none⟩ c).heap[w5.heap.size]?=some (.cells cs8 36 (0,0))∧(((W1.setCell ⟨w.heap.size+1+1+1,0,none⟩ a).setCell ⟨w.heap.size+1+1+1,1,none⟩ b).setCell ⟨w.heap.size+1+1+1,2,none⟩ c).cell? ⟨w5.heap.size+1,0,none⟩=some (.int .i64 0)∧(((W1.setCell ⟨w.heap.size+1+1+1,0,none⟩ a).setCell ⟨w.heap.size+1+1+1,1,none⟩ b).setCell ⟨w.heap.size+1+1+1,2,none⟩ c).cell? ⟨w5.heap.size+1,1,none⟩=some (.int .u64 (rp:Nat))∧(((W1.setCell ⟨w.heap.size+1+1+1,0,none⟩ a).setCell ⟨w.heap.size+1+1+1,1,none⟩ b).setCell ⟨w.heap.size+1+1+1,2,none⟩ c).cell? ⟨w5.heap.size+1,2,none⟩=some (.int .u64 0):=fun a b c=>by
  have g2:W1.grownBy (((W1.setCell ⟨w.heap.size+1+1+1,0,none⟩ a).setCell ⟨w.heap.size+1+1+1,1,none⟩ b).setCell ⟨w.heap.size+1+1+1,2,none⟩ c) (some (w.heap.size+1+1+1)):=Yaa (Yac _ _ _ _) (Yaa (Yac _ _ _ _) (Yac _ _ _ _))
  have h2:=(g2.block _ (lt_of_block hS1.2) (by simp <;> omega)).trans hS1.2
  obtain ⟨m0,m1,m2⟩:=Yaf h2
  exact ⟨(g2.block _ (lt_of_block hS1.1) (by simp <;> omega)).trans hS1.1,m0,m1,m2⟩
 have HS2:=Lib.hid hS2
 have HBX:=Lib.hid BXd
 have HST9:=Lib.hid hst9
 clear hS2 hS1 hst9 BXd hst6 hTd hRd
 go_simp
 refine hK.out _ _ (HS2.out _ _ _) (fun hHeld=>?_)
 clear hK K
 try simp only [Act.put,List.setIfInBounds_toArray,List.set_cons_zero,List.set_cons_succ]
 refine wpAnyH_done (by kernel_rfl) ?_ _
 go_wp2
 obtain ⟨q1,q2,q3,q4⟩:=HBX.out.done HST9.out p1 g1 (e:=0) (p:=rp) (q:=0)
 refine bodyPost_ret (Yav rfl _ rfl rfl q1 q2 Tryz.underlying36 rfl (by rw [Yai,u0]) Tryz.underlying46 rfl Ya0) rfl ?_
 exact ⟨_,rfl,q3,q4⟩
end
end
section
def Tells14 (w:World) (F:Nat→Prop) (base all:Nat) (S':MS) (e p q:Nat) (en:Ending) (w':World):Prop:=∃ v',en=.returned (.tuple #[v',.agg #[.int .i64 (e:Nat),.int .u64 (p:Nat),.int .u64 (q:Nat)]])∧StIs w' F base v' all S'∧w.grownBy w' none
section
variable {w w':World} {F:Nat→Prop} {base all K c i:Nat} {v:Value} {S S':MS} {x:OpM} {e p q:Nat}
theorem own_used (S:MS) (c:Nat) (x:OpM):ownR S c x=((Ybj S.bs x.off (owL c x.kind):Nat):Int):=by
 unfold ownR Ybj
 cases fstN (pF x.off) S.bs with
 | none=>rfl
 | some i =>
  simp only
  unfold ownE owL gW
  obtain ⟨o,eo⟩:∃ o,(S.bs.getD i default).o=o:=⟨_,rfl⟩
  rw [eo]
  by_cases h1:o=(c:Int)+1
  ·rw [if_pos h1]
   split
   ·rw [if_pos (by simp [h1])];rfl
   ·rw [if_pos (by simp [h1])];rfl
  ·rw [if_neg h1]
   by_cases h2:pubK x.kind=true
   ·rw [if_pos h2]
    by_cases h3:o=0
    ·rw [if_pos ⟨h3,h2⟩,if_pos (by simp [h3])];rfl
    ·rw [if_neg (fun k=>h3 k.1),if_neg (by simp [h1,h3])];rfl
   ·rw [if_neg (fun k=>h2 k.2),if_neg h2,if_neg (by simp [h1])];rfl
theorem first_of {α:Type} {P:α→Prop} [DecidablePred P]:∀ {l:List α},(∃ q∈l,P q)→∃ A q C,l=A++q::C∧P q∧∀ z∈A,¬ P z
 | [],h=>by obtain ⟨q,hq,_⟩:=h;cases hq
 | a::r,h=>by
  by_cases ha:P a
  ·exact ⟨[],a,r,rfl,ha,fun z hz=>by cases hz⟩
  ·obtain ⟨A,q,C,h1,h2,h3⟩:=first_of (l:=r) (by
    obtain ⟨q,hq,hp⟩:=h
    rcases List.mem_cons.1 hq with k|k
    ·rw [k] at hp;exact absurd hp ha
    ·exact ⟨q,k,hp⟩)
   exact ⟨a::A,q,C,by rw [h1];rfl,h2,fun z hz=>by
    rcases List.mem_cons.1 hz with k|k
    ·rw [k];exact ha
    ·exact h3 z k⟩
theorem name_some (hM:HM K S):∀ q∈S.nm,q.1≠ByteArray.mk #[]∧q.2≠0:=fun q hq=>by
 refine ⟨fun e=>?_,fun e=>?_⟩
 ·have:=(hM.no q hq).1
  rw [e] at this
  exact absurd this (by decide)
 ·obtain ⟨b,h1,h2,h3⟩:=hM.nu q hq
  omega
theorem words_few (hM:HM K S) {i:Nat} (hi:fstN (pF p) S.bs=some i):(datL S.ds p).length≤600:=by
 obtain ⟨A,b,C,e,h1,hu,hp,hb⟩:=hM.hs.q.found hi
 have hbm:b∈S.bs:=by rw [e];simp
 have h2:=hM.dl b (Yb3.2 ⟨hbm,hu⟩)
 have h3:=(hM.hs.q.is b hbm).us hu
 have h4:=hM.hs.q.mem hbm
 have h5:=hM.hs.q.top
 rw [hp] at h2
 omega
theorem rblk14 (h:StIs w F base v all S) (hM:HM K S) (hK:K≤1000000) (hFb:∀ g,F g→g<w.heap.size) (hbw:base≤w.heap.size) (hc:c<8) (hx:OpOk x) (hb:blkK x.kind) (ha:Yb5 all S c x S' e p q) :
  Calls Tryz.prog 53 #[v,.int .i64 c,.agg (opC x)] w (Tells14 w F base all S' e p q):=by
 have hF:=hM.hs.fine
 have hlen:S.bs.length≤1000000:=by have:=hM.hs.few;omega
 have hds:S.ds.length≤1000000:=Nat.le_trans hM.dn hK
 have hnm:S.nm.length≤1000000:=by have:=hM.nn;omega
 have how:=own_used S c x
 have hns:=name_some hM
 unfold blkK at hb
 cases ha with
 | busy hk=>omega
 | detach hk=>omega
 | alloc hk=>omega
 | aligned hk=>omega
 | callocNo hk=>omega
 | calloc hk=>omega
 | growNo hk=>omega
 | grow hk=>omega
 | nameBad hk=>unfold nameK at hk;omega
 | nameNone hk=>omega
 | find hk=>omega
 | destroy hk=>omega
 | consThere hk=>omega
 | consFull hk=>omega
 | consNo hk=>omega
 | cons hk=>omega
 | bad hk hne =>
  have h0:ownR S c x≠0:=by rw [how];omega
  have:=rblk_bad h hlen hc h0
  rw [how] at this
  exact this
 | reallocNo hk hu hne=>exact rblk_reallocNo h hF hds hFb hbw hc hx (by rw [how,hu];rfl) hk hne
 | realloc hk hu hz =>
  obtain ⟨i,hi,hw⟩:=Yck hu
  have h6:=words_few hM hi
  have h7:(x.n+7) / 8≤1000000:=by
   obtain ⟨A,b,C,e5,h1,hub,hp,hbb⟩:=hM.hs.q.found hi
   have hbm:b∈S.bs:=by rw [e5];simp
   have h4:=hM.hs.q.mem hbm
   have h5:=hM.hs.q.top
   have h8:=need_48 x.n
   have hs':=hM.hs
   by_cases h18:18446744073709551560<x.n
   ·unfold rzE at hz;rw [hi] at hz;simp only at hz;rw [if_pos h18] at hz;cases hz
   ·rw [e5] at hs' hz
    rw [← hp] at hz
    by_cases hle:Yat x.n≤b.s
    ·omega
    ·have e6:=(rzB_out (n:=x.n) hs' hub (by omega) (by omega)).2.2.2
     rw [e6,← e5] at hz
     obtain ⟨_,_,_,_,_,_,_,_,_,_,h9,_⟩:=take_at hM.hs hz
     omega
  exact rblk_realloc h hF hds hFb hbw hc hx (by rw [how,hu];rfl) hk hz h7 (by omega)
 | freeNo hk hu hn =>
  obtain ⟨A,z,C,h1,h2,h3⟩:=first_of (P:=fun z:ByteArray × Nat=>z.2=x.off) hn
  have hj:=nmdL_at (s:=ByteArray.mk #[]) (p:=x.off) h1 (.inr h2) fun z hz k=>by
   rcases k with k|k
   ·exact (hns z (by rw [h1];simp [hz])).1 k
   ·exact h3 z hz k
  exact rblk_freeNo h hlen hds hnm hc hx (by rw [how,hu];rfl) hk hj
 | free hk hu hn =>
  have hj:=nmdL_no (nm:=S.nm) (s:=ByteArray.mk #[]) (p:=x.off) fun z hz k=>by
   rcases k with k|k
   ·exact (hns z hz).1 k
   ·exact hn z hz k
  exact rblk_free h hF hds hnm hFb hbw hc (by rw [how,hu];rfl) hk hj
 | out hk hu hle =>
  obtain ⟨i,hi,hw⟩:=Yck hu
  have h6:=words_few hM hi
  exact rblk_out h hlen hds hnm hc hx (by rw [how,hu];rfl) hk hle (by omega)
 | read hk hu hlt =>
  obtain ⟨i,hi,hw⟩:=Yck hu
  have h6:=words_few hM hi
  exact rblk_read h hlen hds hFb hbw hc hx (by rw [how,hu];rfl) hk hlt (by omega)
 | write hk hu hlt =>
  obtain ⟨i,hi,hw⟩:=Yck hu
  have h6:=words_few hM hi
  exact rblk_write h hlen hds hFb hbw hc hx (by rw [how,hu];rfl) hk hlt (by omega)
 | publish hk hu hi =>
  obtain ⟨i',hi',hw⟩:=Yck hu
  have e:=Option.some.inj (hi'.symm.trans hi)
  subst e
  have:=own_not hw (by rw [hk];decide)
  exact rblk_publish h hF hds hnm hFb hbw hc (by rw [how,hu];rfl) hk hi (by omega)
 | giveArg hk hu ht=>exact rblk_giveArg h hlen hds hnm hc hx (by rw [how,hu];rfl) hk ht
 | giveNone hk hu h8 ht hl=>exact rblk_giveNone h hF hds hnm hFb hbw hc (by rw [how,hu];rfl) hk h8 ht hl
 | give hk hu h8 ht hl hi =>
  obtain ⟨i',hi',hw⟩:=Yck hu
  have e:=Option.some.inj (hi'.symm.trans hi)
  subst e
  have:=own_not hw (by rw [hk];decide)
  exact rblk_give h hF hds hnm hFb hbw hc (by rw [how,hu];rfl) hk h8 ht hl hi (by omega)
theorem rnam14 (h:StIs w F base v all S) (hM:HM K S) (hK:K≤1000000) (hFb:∀ g,F g→g<w.heap.size) (hbw:base≤w.heap.size) (hx:OpOk x) (hb:nameK x.kind) (ha:Yb5 all S c x S' e p q) :
  Calls Tryz.prog 51 #[v,.agg (opC x)] w (Tells14 w F base all S' e p q):=by
 have hF:=hM.hs.fine
 have hds:S.ds.length≤1000000:=Nat.le_trans hM.dn hK
 have hnm:S.nm.length≤1000000:=by have:=hM.nn;omega
 have hns:=name_some hM
 have hno:(∀ z∈S.nm,z.1≠x.name)→∀ z∈S.nm,¬ (z.1=x.name∨z.2=0):=fun hn z hz k=>by
  rcases k with k|k
  ·exact hn z hz k
  ·exact (hns z hz).2 k
 have hat:∀ {A C:List (ByteArray × Nat)} {p:Nat},S.nm=A++(x.name,p)::C→∀ z∈A,¬ (z.1=x.name∨z.2=0):=fun {A C p} hnA z hz k=>by
  rcases k with k|k
  ·have h1:=hM.nk
   rw [hnA,List.map_append,List.map_cons] at h1
   exact (List.nodup_append.1 h1).2.2 _ (List.mem_map_of_mem hz) _ (by simp) k
  ·exact (hns z (by rw [hnA];simp [hz])).2 k
 have hpl:∀ {A C:List (ByteArray × Nat)} {p:Nat},S.nm=A++(x.name,p)::C→p<18446744073709551616:=fun {A C p} hnA=>by
  obtain ⟨b,k1,k2,k3⟩:=hM.nu (x.name,p) (by rw [hnA];simp)
  have h1:=hM.hs.q.mem (Yb3.1 k1).1
  have h2:=hM.hs.q.top
  have k4:b.off+32=p:=k3
  omega
 unfold nameK at hb
 cases ha with
 | busy hk=>omega
 | detach hk=>omega
 | alloc hk=>omega
 | aligned hk=>omega
 | callocNo hk=>omega
 | calloc hk=>omega
 | growNo hk=>omega
 | grow hk=>omega
 | bad hk hne=>unfold blkK at hk;omega
 | reallocNo hk=>omega
 | realloc hk=>omega
 | freeNo hk=>omega
 | free hk=>omega
 | out hk=>omega
 | read hk=>omega
 | write hk=>omega
 | publish hk=>omega
 | giveArg hk=>omega
 | giveNone hk=>omega
 | give hk=>omega
 | nameBad hk hno'=>exact rnam_bad h hnm hx hno'
 | nameNone hk hok hn=>exact rnam_none h hnm hx hk hok (hno hn)
 | find hk hok hnA=>exact rnam_find h hnm hx hk hok hnA (hat hnA) (hpl hnA)
 | destroy hk hok hnA=>exact rnam_destroy (S:=S) h hF hds hnm hFb hbw hx hk hok hnA (hat hnA) (hpl hnA)
 | consThere hk hok hnA=>exact rnam_there h hnm hx hk hok hnA (hat hnA)
 | consFull hk hok hn hf=>exact rnam_full h hnm hx hk hok (hno hn) hf
 | consNo hk hok hn hl hft=>exact rnam_consNo h hF hds hnm hFb hbw hx hk hok (hno hn) hl hft
 | cons hk hok hn hl hft =>
  have:=rnam_cons h hF hds hnm hFb hbw hx hk hok (hno hn) hl hft
  obtain ⟨_,_,k2,_⟩:=hM.hs.take hft (ow:=0) (by omega)
  rw [k2] at this
  exact this
end
end
end Go.Proofs.YtfhiljglfhekdaaGreat
