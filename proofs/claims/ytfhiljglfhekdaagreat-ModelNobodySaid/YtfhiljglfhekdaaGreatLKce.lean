/-
  Texts of one layer, one behind the other: memory, contracts of the functions, and what follows of them.
  Conditions: as each theorem says.
-/
import Derived.Test.YtfhiljglfhekdaaGreatLKcd
import Derived.Test.YtfhiljglfhekdaaGreatLCab
import Derived.Test.YtfhiljglfhekdaaGreatLMpa
set_option linter.unusedVariables false
set_option linter.unusedSimpArgs false
set_option maxRecDepth 100000
namespace Go.Proofs.YtfhiljglfhekdaaGreat
open Go.RowKit
section
section
variable {w w' w0 w1 w2:World} {F:Nat→Prop} {P all E:Nat} {ns:List (ByteArray × Nat)} {lv:Nat→Bool} {l A C:List KB} {x:KB}
theorem Md.other {b:Nat} {c:Array Value} {t:TypeId} {fr:Nat × Nat} (h:Md w F P all l ns lv) (hb:w.heap[b]?=some (.cells c t fr)) (h1:t≠53) (h2:t≠26) (h3:t≠91) (hg:w.grownBy w' (some b)):Md w' F P all l ns lv:=by
 obtain ⟨g,cap,f,M,hst,hk,hPg,hFg,hFM,hmp⟩:=h.ex
 refine ⟨⟨g,cap,f,M,⟨(hg.block _ (lt_of_block hst.box) (fun e=>by injection e with e;exact Ybu hst.box hb (Ne.symm h3) e)).trans hst.box,hst.row.other hb h1 hg⟩,hk,hPg,hFg,hFM,hmp.kept hg (fun e=>by injection e with e;exact hmp.ne hb e)⟩,fun x hx=>?_,h.nod,h.dF,h.free,h.pF,fun q hq=>Nat.lt_of_lt_of_le (h.lt q hq) hg.size⟩
 have ho:=h.own x hx
 refine World.ownsRow.kept ho hg ?_
 by_cases e1:(kv x).ownBlock=none
 ·exact .inl e1
 ·refine .inr fun e2=>?_
  obtain ⟨cur,hc⟩:=Ycn ho e2
  exact Ybu hc hb (Ne.symm h2) rfl
theorem MdR.boxed {b:Nat} {c:Array Value} {t:TypeId} {fr:Nat × Nat} (h:MdR w0 w1 F P all l ns lv) (ga:w.grownBy w0 none) (hlt:∀ g,F g→g<w.heap.size) (hbw:w.heap.size≤b) (hb:w1.heap[b]?=some (.cells c t fr)) (h1:t≠53) (h2:t≠26) (h3:t≠91) (hg:w1.grownBy w2 (some b)):MdR w w2 F P all l ns lv:=by
 have hs:=ga.size
 have hs2:=hg.size
 refine ⟨(h.1.other hb h1 h2 h3 hg).mono (fun q hq=>?_) (Ycp hlt (Nat.le_trans hs (Nat.le_trans h.2.size hs2))),?_⟩
 ·rcases hq with h4|h4
  ·exact .inl h4
  ·exact .inr ⟨by omega,by omega⟩
 ·exact Ybx (Ybx (Ybm ga (p:=F) (fun k e=>by cases e)) h.2 (fun i hi=>.inl hi)) (Ybm hg (p:=fun i=>i=b) (fun k e=>by injection e with e;exact e.symm)) (fun i hi=>.inr (by rw [hi];exact hbw))
theorem cut_first {i1 need:Nat} (hi:A.length=i1):i1<(A++cutK x need++C).length∧((A++cutK x need++C).getD i1 default).b.off=x.b.off:=by
 unfold cutK
 rw [← hi]
 split
 ·refine ⟨by simp,?_⟩
  rw [List.getD_eq_getElem?_getD,List.append_assoc,List.getElem?_append_right (Nat.le_refl _),Nat.sub_self];rfl
 ·refine ⟨by simp <;> omega,?_⟩
  rw [List.getD_eq_getElem?_getD,List.append_assoc,List.getElem?_append_right (Nat.le_refl _),Nat.sub_self];rfl
set_option maxHeartbeats 8000000 in
theorem mtake_ok {xo xs i ow m a:Nat} (h:Md w F P all (A++Ya9 xo xs::C) ns lv) (hL:Lay E (A++Ya9 xo xs::C)) (hi:A.length=i) (ha:Ybr a) (hm:m≤4800) (hf:fitM ((A++Ya9 xo xs::C).map KB.b) m a=some i) :
  Calls Tryz.prog 86 #[.pointer (some ⟨P,0,none⟩),.int .i64 (ow:Int),.int .u64 m,.int .u64 a] w fun e w'=>e=.returned (.agg #[.int .i64 0,.int .u64 (xo+padN xo a+32:Nat),.int .u64 0])∧∃ N,MdR w w' F P all (A++pieces (Ya9 xo xs) (padN xo a) (Yat m) ow m N++C) ns lv:=by
 have b:=Yab w (.cells #[.int .i64 0,.int .u64 0,.int .u64 0] 46)
 have ga:=World.grownBy_alloc w (.cells #[.int .i64 0,.int .u64 0,.int .u64 0] 46) none
 obtain ⟨W0,hW0⟩:∃ W0,w.alloc (.cells #[.int .i64 0,.int .u64 0,.int .u64 0] 46)=W0:=⟨_,rfl⟩
 rw [hW0] at b ga
 obtain ⟨⟨kk,hkk,hak⟩,ha16,ha4⟩:=Yeh.1 ha
 have hon:=fun V=>ones_any a (by omega) V
 have h1o:Yeu (a:Int)=1:=by rw [hak];exact onesp kk hkk
 rw [h1o] at hon
 have h1':¬ (a:Int)<16:=by omega
 have h2':¬ (4096:Int)<(a:Int):=by omega
 have hnd:=fun V=>need_fits m (by omega) V
 have hM0:=h.later ga
 have hft:=fit_md hM0 hL ha (Yat m)
 have hbi:(((A++Ya9 xo xs::C).map KB.b).getD i default)=Ya4 xo xs:=by
  rw [List.getD_eq_getElem?_getD,List.getElem?_map,← hi,List.getElem?_append_right (Nat.le_refl _),Nat.sub_self];rfl
 obtain ⟨hf1,hf2,hf3,hf4⟩:=fitM_is hf
 have hfe:fitT ((A++Ya9 xo xs::C).map KB.b) a (some i)=.tuple #[.int .i64 (i:Nat),.int .u64 (padN xo a:Nat),.bool true]:=by
  unfold fitT fitAh gO
  dsimp only
  rw [hbi]
  rfl
 unfold fitM at hf
 rw [hf,hfe] at hft
 rw [hbi] at hf3 hf4
 replace hf3:Yat m≤xs:=hf3
 replace hf4:padN xo a+Yat m≤xs:=hf4
 obtain ⟨hx1,hx2,hx3,hx4,hx5⟩:=hL.mem (x:=Ya9 xo xs) (by simp)
 replace hx3:xo+xs≤E:=hx3
 have htop:=hL.top
 have hfew:=hL.few
 have HLT:Hid (∀ g,F g→g<W0.heap.size):=Lib.hid (fun g hg=>Nat.lt_of_lt_of_le (h.lt g hg) ga.size)
 have HLW:=Lib.hid h.lt
 have HNF:Hid (¬ F w.heap.size):=Lib.hid (fun hF=>by have:=h.lt _ hF;omega)
 have HBX:=Lib.hid b
 have HGX:=Lib.hid ga
 obtain ⟨nd,hndd⟩:∃ nd,Yat m=nd:=⟨_,rfl⟩
 obtain ⟨pd,hpd⟩:∃ pd,padN xo a=pd:=⟨_,rfl⟩
 rw [hndd] at hnd hft hf3 hf4 ⊢
 rw [hpd] at hft hf4 ⊢
 have HM0:=Lib.hid hM0
 have hil:i≤64:=by rw [← hi];simp at hfew;omega
 clear b ga hf ha hak h1o hL h hndd hpd hfe hbi hf1 hf2 hx1 hx2 hx4 hx5 hM0 ha16 ha4
 by_cases hp0:pd=0
 ·subst hp0
  obtain ⟨A1,hA1⟩:∃ A1,A=A1:=⟨_,rfl⟩
  obtain ⟨yo,hyo⟩:∃ yo,xo=yo:=⟨_,rfl⟩
  obtain ⟨ys,hys⟩:∃ ys,xs=ys:=⟨_,rfl⟩
  obtain ⟨i1,hi1e⟩:∃ i1,i=i1:=⟨_,rfl⟩
  have HPC:Hid (∀ N,A++pieces (Ya9 xo xs) 0 nd ow m N++C=A1++cutK (((Ya9 yo ys).marked ow).filled m (some ⟨N,0,none⟩)) nd++C):=Lib.hid (fun N=>by rw [← hA1,← hyo,← hys];rfl)
  rw [hA1,hi1e] at hi
  have hi1:=hi
  have HLN:Hid ((A1++(((Ya9 yo ys).marked ow).filled m (some ⟨0,0,none⟩))::C).length≤900):=Lib.hid (by rw [← hA1];simp at hfew ⊢;omega)
  replace HLN:∀ N:Nat,(A1++(((Ya9 yo ys).marked ow).filled m (some ⟨N,0,none⟩))::C).length≤900:=fun N=>by have:=HLN.out;simpa using this
  have HND0:nd≤ys:=by rw [← hys];exact hf3
  have HLS0:yo+ys<1000000000:=by rw [← hyo,← hys];omega
  replace HLN:=Lib.hid HLN
  have HND:=Lib.hid HND0
  have HLS:=Lib.hid HLS0
  rw [hA1,hyo,hys] at HM0
  rw [hi1e] at hft
  obtain ⟨z,hz⟩:∃ z,xo+0+32=z:=⟨_,rfl⟩
  rw [hz]
  have wz:IntKind.u64.wrap ((yo:Int)+32)=(z:Nat):=by rw [IntKind.wrap_u64];omega
  clear hA1 hyo hys hi1e hi HND0 HLS0 hz hf3 hf4 hx3 hfew htop
  go_enter Tryz.func86,Tryz.ntmps86
  go_wp2_with (first
   | (go_at_call 110;((with_reducible refine (hon _).mono ?_);rintro e w1 ⟨rfl,rfl⟩))
   | (go_at_call 89;((with_reducible refine (hnd _).mono ?_);rintro e w1 ⟨rfl,rfl⟩))
   | (go_at_call 111;(go_loud (with_reducible refine hft.mono ?_);go_loud (rintro e w1 ⟨rfl,hg1⟩);go_loud (have HM:=Lib.hid (MdR.of_later HM0.out hg1)))))
  obtain ⟨g,cap,f,M,hst,hk,hPg,hFg,hFM,hmp⟩:=HM.out.1.ex
  obtain ⟨n,hn⟩:∃ n,(A1++Ya9 yo ys::C).length=n:=⟨_,rfl⟩
  rw [hn] at hst hk
  obtain ⟨hfi,hin,_⟩:=Ybn hk hi1 (Ya9 yo ys)
  have hin':(i1:Int)<(n:Int):=by omega
  have q1:w1.drew.cell? ⟨P,1,none⟩=some (.slice (some ⟨g,0,none⟩) n cap):=hst.cells.2.1
  have q2:w1.drew.cell? ⟨g,i1*6+2,none⟩=some (.bool (f i1).b.u):=(hst.row.cells hin).2.2.1
  have q3:w1.drew.cell? ⟨g,i1*6+3,none⟩=some (.int .i64 (f i1).b.o):=(hst.row.cells hin).2.2.2.1
  have q4:w1.drew.frozen? ⟨g,i1*6+2,none⟩=false:=hst.row.frz _
  have q5:w1.drew.frozen? ⟨g,i1*6+3,none⟩=false:=hst.row.frz _
  rw [hfi] at q2 q3
  replace q2:w1.drew.cell? ⟨g,i1*6+2,none⟩=some (.bool false):=q2
  replace q3:w1.drew.cell? ⟨g,i1*6+3,none⟩=some (.int .i64 0):=q3
  have q6:w1.cell? ⟨g,i1*6+3,none⟩=some (.int .i64 0):=q3
  have q7:w1.frozen? ⟨g,i1*6+3,none⟩=false:=q5
  have hr6:=hst.row.set (v:=.bool true) (x:=⟨⟨yo,ys,true,0,0⟩,none,0,0,[]⟩) hin (show 2<6 by decide) (by rw [hfi];rfl)
  have hr7:=hr6.set (v:=.int .i64 (ow:Int)) (k:=i1) (x:=(Ya9 yo ys).marked ow) hin (show 3<6 by decide) (by rw [Yby];rfl)
  rw [updK_upd] at hr7
  have hr8:=hr7.later (Yah (Yag _ none))
  have hg8:w1.grownBy ((w1.setCell ⟨g,i1*6+2,none⟩ (.bool true)).setCell ⟨g,i1*6+3,none⟩ (.int .i64 (ow:Int))).drew (some g):=Yaa (Yac _ _ _ _) (Yaa (Yac _ _ _ _) (Yam (Yah (Yag _ none)) _))
  have hput:=HM.out.1.put hst hn hk hPg hFg hFM hmp hi1 hr8 hg8 (.inl ⟨rfl,rfl,rfl,rfl⟩)
  obtain ⟨W5,hW5⟩:∃ W5,((w1.setCell ⟨g,i1*6+2,none⟩ (.bool true)).setCell ⟨g,i1*6+3,none⟩ (.int .i64 (ow:Int))).drew=W5:=⟨_,rfl⟩
  have HW5:=Lib.hid hW5
  rw [hW5] at hput
  have HM2:=Lib.hid (HM.out.trans hput HLT.out)
  have hfl:=fill_md HM2.out.1 (m:=m) hi1 (by omega) rfl
  clear hput hr6 hr7 hr8 hg8 hst hk hmp hfi hW5
  go_region_law (fail)
  all_goals
   rw [HW5.out]
   clear q1 q2 q3 q4 q5 q6 q7
   go_wp2_with (first
    | (go_at_call 91;((with_reducible refine hfl.mono ?_);rintro e w6 ⟨rfl,N,hM6⟩;have HM3:=Lib.hid (HM2.out.trans hM6 HLT.out);have hct:=cut_md HM3.out.1 (need:=nd) (HLN.out N) hi1 HND.out HLS.out))
    | (go_at_call 92;((with_reducible refine hct.mono ?_);rintro e w7 ⟨rfl,hM7⟩;have HM4:=Lib.hid (HM3.out.trans hM7 HLT.out);have hbx7:=Yay HM4.out.2 HBX.out HNF.out;obtain ⟨y0,y1,y2⟩:=Yaf hbx7;obtain ⟨z0,z1,z2⟩:=Yak hbx7;obtain ⟨g7,cap7,f7,M7,hst7,hk7,hPg7,_⟩:=HM4.out.1.ex;obtain ⟨n7,hn7⟩:∃ n7,(A1++cutK (((Ya9 yo ys).marked ow).filled m (some ⟨N,0,none⟩)) nd++C).length=n7:=⟨_,rfl⟩;have hof:=cut_first (A:=A1) (C:=C) (x:=((Ya9 yo ys).marked ow).filled m (some ⟨N,0,none⟩)) (need:=nd) hi1;rw [hn7] at hst7 hk7 hof;have hf7:(f7 i1).b.off=yo:=(by rw [← klist_at (f:=f7) hof.1,hk7];exact hof.2);have e1:=hst7.cells.2.1;have e2:=(hst7.row.cells hof.1).1;rw [hf7] at e2;have e3:(i1:Int)<(n7:Int):=(by have:=hof.1;omega))))
   have q:=Yaz hbx7 (x':=.int .i64 0) (y':=.int .u64 (z:Nat)) (z':=.int .u64 0)
   obtain ⟨k0,k1,k2⟩:=Yaf q
   refine bodyPost_ret (v:=.agg #[.int .i64 0,.int .u64 (z:Nat),.int .u64 0]) (by simp [results,Tryz.results86,go_sem,k0,k1,k2]) rfl ?_
   refine ⟨rfl,N,?_⟩
   rw [HPC.out N]
   exact HM4.out.boxed HGX.out HLW.out (Nat.le_refl _) hbx7 (by decide) (by decide) (by decide) (Yaa (Yac _ _ _ _) (Yaa (Yac _ _ _ _) (Yac _ _ _ _)))
 ·have hp1:0<pd:=by omega
  have hp1':(0:Int)<(pd:Int):=by omega
  obtain ⟨A1,hA1⟩:∃ A1,A++[Ya9 xo pd]=A1:=⟨_,rfl⟩
  obtain ⟨yo,hyo⟩:∃ yo,xo+pd=yo:=⟨_,rfl⟩
  obtain ⟨ys,hys⟩:∃ ys,xs - pd=ys:=⟨_,rfl⟩
  obtain ⟨i1,hi1e⟩:∃ i1,i+1=i1:=⟨_,rfl⟩
  have HPC:Hid (∀ N,A++pieces (Ya9 xo xs) pd nd ow m N++C=A1++cutK (((Ya9 yo ys).marked ow).filled m (some ⟨N,0,none⟩)) nd++C):=Lib.hid (fun N=>by
   rw [← hA1,← hyo,← hys];unfold pieces;rw [if_neg hp0,List.append_assoc A [Ya9 xo pd]];rfl)
  have hspl:A++(Ya9 xo xs).sized pd::Ya9 ((Ya9 xo xs).b.off+pd) ((Ya9 xo xs).b.s - pd)::C=A1++Ya9 yo ys::C:=by
   rw [← hA1,← hyo,← hys,List.append_assoc];rfl
  have hi1:A1.length=i1:=by rw [← hA1,← hi1e,List.length_append,hi];rfl
  have HLN:∀ N:Nat,(A1++(((Ya9 yo ys).marked ow).filled m (some ⟨N,0,none⟩))::C).length≤900:=fun N=>by
   rw [← hA1];simp at hfew ⊢;omega
  replace HLN:=Lib.hid HLN
  have HND:=Lib.hid (show nd≤ys by omega)
  have HLS:=Lib.hid (show yo+ys<1000000000 by omega)
  have HLN0:Hid ((A++Ya9 xo xs::C).length≤900):=Lib.hid (by omega)
  have HSZ:=Lib.hid (show pd≤(Ya9 xo xs).b.s by show pd≤xs;omega)
  have HSL:=Lib.hid (show (Ya9 xo xs).b.off+(Ya9 xo xs).b.s<1000000000 by show xo+xs<1000000000;omega)
  have HI:=Lib.hid hi
  have HSP:=Lib.hid hspl
  obtain ⟨z,hz⟩:∃ z,xo+pd+32=z:=⟨_,rfl⟩
  rw [hz]
  have wz:IntKind.u64.wrap ((yo:Int)+32)=(z:Nat):=by rw [IntKind.wrap_u64];omega
  have wi:IntKind.i64.wrap ((i:Int)+1)=(i1:Nat):=by rw [IntKind.wrap_i64];omega
  clear hA1 hyo hys hi1e hi hz hf3 hf4 hx3 hfew htop hspl hp0
  go_enter Tryz.func86,Tryz.ntmps86
  go_wp2_with (first
   | (go_at_call 110;((with_reducible refine (hon _).mono ?_);rintro e w1 ⟨rfl,rfl⟩))
   | (go_at_call 89;((with_reducible refine (hnd _).mono ?_);rintro e w1 ⟨rfl,rfl⟩))
   | (go_at_call 111;((with_reducible refine hft.mono ?_);rintro e w1 ⟨rfl,hg1⟩;have HM1:=Lib.hid (MdR.of_later HM0.out hg1);have hsp:=split_md HM1.out.1 HLN0.out HI.out HSZ.out HSL.out;rw [HSP.out] at hsp))
   | (go_at_call 112;((with_reducible refine hsp.mono ?_);rintro e w2 ⟨rfl,hM2⟩;have HM:=Lib.hid (HM1.out.trans hM2 HLT.out))))
  obtain ⟨g,cap,f,M,hst,hk,hPg,hFg,hFM,hmp⟩:=HM.out.1.ex
  obtain ⟨n,hn⟩:∃ n,(A1++Ya9 yo ys::C).length=n:=⟨_,rfl⟩
  rw [hn] at hst hk
  obtain ⟨hfi,hin,_⟩:=Ybn hk hi1 (Ya9 yo ys)
  have hin':(i1:Int)<(n:Int):=by omega
  have q1:w2.drew.cell? ⟨P,1,none⟩=some (.slice (some ⟨g,0,none⟩) n cap):=hst.cells.2.1
  have q2:w2.drew.cell? ⟨g,i1*6+2,none⟩=some (.bool (f i1).b.u):=(hst.row.cells hin).2.2.1
  have q3:w2.drew.cell? ⟨g,i1*6+3,none⟩=some (.int .i64 (f i1).b.o):=(hst.row.cells hin).2.2.2.1
  have q4:w2.drew.frozen? ⟨g,i1*6+2,none⟩=false:=hst.row.frz _
  have q5:w2.drew.frozen? ⟨g,i1*6+3,none⟩=false:=hst.row.frz _
  rw [hfi] at q2 q3
  replace q2:w2.drew.cell? ⟨g,i1*6+2,none⟩=some (.bool false):=q2
  replace q3:w2.drew.cell? ⟨g,i1*6+3,none⟩=some (.int .i64 0):=q3
  have q6:w2.cell? ⟨g,i1*6+3,none⟩=some (.int .i64 0):=q3
  have q7:w2.frozen? ⟨g,i1*6+3,none⟩=false:=q5
  have hr6:=hst.row.set (v:=.bool true) (x:=⟨⟨yo,ys,true,0,0⟩,none,0,0,[]⟩) hin (show 2<6 by decide) (by rw [hfi];rfl)
  have hr7:=hr6.set (v:=.int .i64 (ow:Int)) (k:=i1) (x:=(Ya9 yo ys).marked ow) hin (show 3<6 by decide) (by rw [Yby];rfl)
  rw [updK_upd] at hr7
  have hr8:=hr7.later (Yah (Yag _ none))
  have hg8:w2.grownBy ((w2.setCell ⟨g,i1*6+2,none⟩ (.bool true)).setCell ⟨g,i1*6+3,none⟩ (.int .i64 (ow:Int))).drew (some g):=Yaa (Yac _ _ _ _) (Yaa (Yac _ _ _ _) (Yam (Yah (Yag _ none)) _))
  have hput:=HM.out.1.put hst hn hk hPg hFg hFM hmp hi1 hr8 hg8 (.inl ⟨rfl,rfl,rfl,rfl⟩)
  obtain ⟨W5,hW5⟩:∃ W5,((w2.setCell ⟨g,i1*6+2,none⟩ (.bool true)).setCell ⟨g,i1*6+3,none⟩ (.int .i64 (ow:Int))).drew=W5:=⟨_,rfl⟩
  have HW5:=Lib.hid hW5
  rw [hW5] at hput
  have HM2:=Lib.hid (HM.out.trans hput HLT.out)
  have hfl:=fill_md HM2.out.1 (m:=m) hi1 (by omega) rfl
  clear hput hr6 hr7 hr8 hg8 hst hk hmp hfi hW5
  go_region_law (fail)
  all_goals
   rw [HW5.out]
   clear q1 q2 q3 q4 q5 q6 q7
   go_wp2_with (first
    | (go_at_call 91;((with_reducible refine hfl.mono ?_);rintro e w6 ⟨rfl,N,hM6⟩;have HM3:=Lib.hid (HM2.out.trans hM6 HLT.out);have hct:=cut_md HM3.out.1 (need:=nd) (HLN.out N) hi1 HND.out HLS.out))
    | (go_at_call 92;((with_reducible refine hct.mono ?_);rintro e w7 ⟨rfl,hM7⟩;have HM4:=Lib.hid (HM3.out.trans hM7 HLT.out);have hbx7:=Yay HM4.out.2 HBX.out HNF.out;obtain ⟨y0,y1,y2⟩:=Yaf hbx7;obtain ⟨z0,z1,z2⟩:=Yak hbx7;obtain ⟨g7,cap7,f7,M7,hst7,hk7,hPg7,_⟩:=HM4.out.1.ex;obtain ⟨n7,hn7⟩:∃ n7,(A1++cutK (((Ya9 yo ys).marked ow).filled m (some ⟨N,0,none⟩)) nd++C).length=n7:=⟨_,rfl⟩;have hof:=cut_first (A:=A1) (C:=C) (x:=((Ya9 yo ys).marked ow).filled m (some ⟨N,0,none⟩)) (need:=nd) hi1;rw [hn7] at hst7 hk7 hof;have hf7:(f7 i1).b.off=yo:=(by rw [← klist_at (f:=f7) hof.1,hk7];exact hof.2);have e1:=hst7.cells.2.1;have e2:=(hst7.row.cells hof.1).1;rw [hf7] at e2;have e3:(i1:Int)<(n7:Int):=(by have:=hof.1;omega))))
   have q:=Yaz hbx7 (x':=.int .i64 0) (y':=.int .u64 (z:Nat)) (z':=.int .u64 0)
   obtain ⟨k0,k1,k2⟩:=Yaf q
   refine bodyPost_ret (v:=.agg #[.int .i64 0,.int .u64 (z:Nat),.int .u64 0]) (by simp [results,Tryz.results86,go_sem,k0,k1,k2]) rfl ?_
   refine ⟨rfl,N,?_⟩
   rw [HPC.out N]
   exact HM4.out.boxed HGX.out HLW.out (Nat.le_refl _) hbx7 (by decide) (by decide) (by decide) (Yaa (Yac _ _ _ _) (Yaa (Yac _ _ _ _) (Yac _ _ _ _)))
end
end
section
section
variable {w w':World} {F:Nat→Prop} {P all E:Nat} {ns:List (ByteArray × Nat)} {lv:Nat→Bool} {l A C:List KB} {x:KB}
theorem Lay.srt (hL:Lay E l) {f:Nat→KB} (hk:Ycb f l.length=l):Srt f l.length:=by
 have hup:=hL.ch.up
 refine ⟨fun i j hij hj=>?_,fun j hj=>?_⟩
 ·have h1:(l.map KB.b)[i]?=some (f i).b:=by rw [List.getElem?_map,← hk,Ydg,if_pos (by omega)];rfl
  have h2:(l.map KB.b)[j]?=some (f j).b:=by rw [List.getElem?_map,← hk,Ydg,if_pos (by omega)];rfl
  obtain ⟨h3,h4⟩:=List.getElem?_eq_some_iff.1 h1
  obtain ⟨h5,h6⟩:=List.getElem?_eq_some_iff.1 h2
  have:=List.pairwise_iff_getElem.1 hup i j h3 h5 hij
  rw [h4,h6] at this
  exact this
 ·have h1:=hL.mem (Ydp hk hj)
  have h2:=hL.top
  omega
theorem Ycs (h:Md w F P all l ns lv) (hL:Lay E l) (p:Nat) {ow:List Int} {m hb:Nat} (hl:ow.length=m) (hm:m≤1000000) (h1:Ycj w hb ow) (c:Nat) :
  Calls Tryz.prog 88 #[.pointer (some ⟨P,0,none⟩),.int .u64 p,.slice (some ⟨hb,0,none⟩) m c] w fun e w'=>e=.returned (.tuple #[.int .i64 (Yei (l.map KB.b) p ow:Nat),.int .i64 (Ybj (l.map KB.b) p ow:Nat)])∧w.grownBy w' none:=by
 obtain ⟨g,cap,f,M,hst,hk,hPg,hFg,hFM,hmp⟩:=h.ex
 have hb2:bsF f l.length=l.map KB.b:=by rw [← klist_b,hk]
 have:=used_any hst (by have:=hL.few;omega) (hL.srt hk) p hl hm h1 c
 rw [hb2] at this
 exact this
theorem place_md (h:Md w F P all l ns lv) (hL:Lay E l) (p:Nat) :
  Calls Tryz.prog 96 #[.pointer (some ⟨P,0,none⟩),.int .u64 p] w fun e w'=>∃ i ok,e=.returned (.tuple #[.int .i64 (i:Nat),.bool ok])∧fstN (pF p) (l.map KB.b)=(if ok=true then some i else none)∧w.grownBy w' none:=by
 obtain ⟨g,cap,f,M,hst,hk,hPg,hFg,hFM,hmp⟩:=h.ex
 have hb2:bsF f l.length=l.map KB.b:=by rw [← klist_b,hk]
 have:=place_is hst (by have:=hL.few;omega) (hL.srt hk) p
 rw [hb2] at this
 exact this
theorem fst_amid {p i:Nat} (hf:fstN (pF p) (l.map KB.b)=some i):∃ A x C,l=A++x::C∧A.length=i∧x=l.getD i default∧x.b.u=true∧(x.b.off+32) % 18446744073709551616=p∧(l.map KB.b).getD i default=x.b:=by
 obtain ⟨h1,h2⟩:=Ydr hf
 rw [List.length_map] at h1
 have hx:l.getD i default=l[i]:=by rw [List.getD_eq_getElem?_getD,List.getElem?_eq_getElem h1];rfl
 have hb:(l.map KB.b).getD i default=(l.getD i default).b:=by
  rw [List.getD_eq_getElem?_getD,List.getElem?_map,List.getElem?_eq_getElem h1,hx];rfl
 refine ⟨l.take i,l.getD i default,l.drop (i+1),?_,by rw [List.length_take];omega,rfl,?_,?_,hb⟩
 ·rw [hx,← List.drop_eq_getElem_cons h1,List.take_append_drop]
 ·rw [hb] at h2;unfold pF at h2;simp only [Bool.and_eq_true] at h2;exact h2.1
 ·rw [hb] at h2;unfold pF at h2;simp only [Bool.and_eq_true,decide_eq_true_eq] at h2;exact h2.2
def tkR (l:List KB) (ow m a N:Nat):List KB:=if Yax (l.map KB.b) m a=0 then tkK l ow m a N else l
theorem Yea (h:Md w F P all l ns lv) (hL:Lay E l) (hz:∀ x∈l,x.b.u=false→x.b=Ya4 x.b.off x.b.s) (hn:∀ x∈l,x.b.u=true→x.b.n+40≤x.b.s) {ow m a:Nat} (hm:m<18446744073709551616) (ha:a<18446744073709551616) :
  Calls Tryz.prog 86 #[.pointer (some ⟨P,0,none⟩),.int .i64 (ow:Int),.int .u64 m,.int .u64 a] w fun e w'=>e=.returned (.agg #[.int .i64 (Yax (l.map KB.b) m a:Nat),.int .u64 (mtP (l.map KB.b) m a:Nat),.int .u64 0])∧∃ N,MdR w w' F P all (tkR l ow m a N) ns lv:=by
 by_cases h1:Ybr a
 ·by_cases h2:m≤18446744073709551560
  ·cases hf:fitM (l.map KB.b) m a with
   | none =>
    have he:Yax (l.map KB.b) m a=3:=by unfold Yax;rw [if_neg (fun k=>k h1),if_neg (by omega),if_pos hf]
    refine (mtake_none h hL (ow:Int) h1 h2 hf).mono ?_
    rintro e w' ⟨rfl,hg⟩
    have hp:mtP (l.map KB.b) m a=0:=by unfold mtP;rw [he];rfl
    rw [hp];unfold tkR;rw [he]
    exact ⟨rfl,0,MdR.of_later h hg⟩
   | some i =>
    have he:Yax (l.map KB.b) m a=0:=by unfold Yax;rw [if_neg (fun k=>k h1),if_neg (by omega),if_neg (by rw [hf];simp)]
    obtain ⟨hf1,hf2,hf3,hf4⟩:=fitM_is hf
    rw [List.length_map] at hf1
    have hx:l.getD i default=l[i]:=by rw [List.getD_eq_getElem?_getD,List.getElem?_eq_getElem hf1];rfl
    have hxm:l.getD i default∈l:=by rw [hx];exact List.getElem_mem hf1
    have hb:(l.map KB.b).getD i default=(l.getD i default).b:=by
     rw [List.getD_eq_getElem?_getD,List.getElem?_map,List.getElem?_eq_getElem hf1,hx];rfl
    rw [hb] at hf2 hf3 hf4
    have hl:l=l.take i++l.getD i default::l.drop (i+1):=by rw [hx,← List.drop_eq_getElem_cons hf1,List.take_append_drop]
    have hkb:=free_is_kb (h.free _ hxm hf2) (hz _ hxm hf2)
    have hmm:m≤4800:=by
     have h40:m≤Yat m:=by unfold Yat;split <;> omega
     have:=hL.mem hxm
     have:=hL.top
     omega
    have hbo:gO (l.map KB.b) i=(l.getD i default).b.off:=by unfold gO;rw [hb]
    obtain ⟨x,hxe⟩:∃ x,l.getD i default=x:=⟨_,rfl⟩
    rw [hxe] at hkb hbo hl
    have hl2:=hl
    rw [hkb] at hl2
    have hlen:(l.take i).length=i:=by rw [List.length_take];omega
    have hok:=mtake_ok (ow:=ow) (xo:=x.b.off) (xs:=x.b.s) (C:=l.drop (i+1)) (by rw [← hl2];exact h) (by rw [← hl2];exact hL) hlen h1 hmm (by rw [← hl2];exact hf)
    refine hok.mono ?_
    rintro e w' ⟨rfl,N,hM⟩
    have hp:mtP (l.map KB.b) m a=x.b.off+padN x.b.off a+32:=by unfold mtP;rw [if_pos he];unfold tkP;rw [hf];dsimp only;rw [hbo]
    rw [hp];unfold tkR;rw [he]
    refine ⟨rfl,N,?_⟩
    rw [if_pos rfl]
    unfold tkK
    rw [hf]
    dsimp only
    rw [hbo,hxe,hkb]
    exact hM
  ·have he:Yax (l.map KB.b) m a=2:=by unfold Yax;rw [if_neg (fun k=>k h1),if_pos (by omega)]
   refine (mtake_size (ow:Int) h1 hm (by omega) P).mono ?_
   rintro e w' ⟨rfl,hg⟩
   have hp:mtP (l.map KB.b) m a=0:=by unfold mtP;rw [he];rfl
   rw [hp];unfold tkR;rw [he]
   exact ⟨rfl,0,MdR.of_later h hg⟩
 ·have he:Yax (l.map KB.b) m a=1:=by unfold Yax;rw [if_pos h1]
  refine (mtake_arg h (ow:Int) m ha h1).mono ?_
  rintro e w' ⟨rfl,hg⟩
  have hp:mtP (l.map KB.b) m a=0:=by unfold mtP;rw [he];rfl
  rw [hp];unfold tkR;rw [he]
  exact ⟨rfl,0,MdR.of_later h hg⟩
end
end
section
structure Sane (E:Nat) (l:List KB):Prop where
 lay:Lay E l
 fz:∀ x∈l,x.b.u=false→x.b=Ya4 x.b.off x.b.s
 un:∀ x∈l,x.b.u=true→x.b.n+40≤x.b.s
section
variable {w w' w1:World} {F:Nat→Prop} {P all E b:Nat} {ns:List (ByteArray × Nat)} {lv:Nat→Bool} {l A C:List KB} {x:OpM}
theorem Ybq (x:OpM):(((w.alloc (.cells (opC x) 41)).alloc (.cells #[.int .i64 0,.int .u64 0,.int .u64 0] 46)).heap[w.heap.size]?=some (.cells (opC x) 41 (0,0))) ∧
  (((w.alloc (.cells (opC x) 41)).alloc (.cells #[.int .i64 0,.int .u64 0,.int .u64 0] 46)).heap[w.heap.size+1]?=some (.cells #[.int .i64 0,.int .u64 0,.int .u64 0] 46 (0,0)))∧w.grownBy ((w.alloc (.cells (opC x) 41)).alloc (.cells #[.int .i64 0,.int .u64 0,.int .u64 0] 46)) none:=by
 have h1:=Yab w (.cells (opC x) 41)
 have h2:=Yab (w.alloc (.cells (opC x) 41)) (.cells #[.int .i64 0,.int .u64 0,.int .u64 0] 46)
 rw [World.size_alloc] at h2
 have g1:=World.grownBy_alloc w (.cells (opC x) 41) none
 have g2:=World.grownBy_alloc (w.alloc (.cells (opC x) 41)) (.cells #[.int .i64 0,.int .u64 0,.int .u64 0] 46) none
 exact ⟨(g2.block _ (lt_of_block h1) (by simp)).trans h1,h2,Yaa g1 g2⟩
theorem Yal (h:w.heap[b]?=some (.cells (opC x) 41 (0,0))):w.cell? ⟨b,0,none⟩=some (.int .i64 x.kind)∧w.cell? ⟨b,1,none⟩=some (.int .u64 (x.n:Nat))∧w.cell? ⟨b,2,none⟩=some (.int .u64 (x.a:Nat))∧w.cell? ⟨b,3,none⟩=some (.int .u64 (x.off:Nat))∧w.cell? ⟨b,4,none⟩=some (.int .u64 (x.i:Nat))∧w.cell? ⟨b,5,none⟩=some (.int .u64 (x.v:Nat))∧w.cell? ⟨b,6,none⟩=some (.int .i64 x.to)∧w.cell? ⟨b,7,none⟩=some (.string x.name):=by
 refine ⟨?_,?_,?_,?_,?_,?_,?_,?_⟩ <;> simp [World.cell?,h,opC]
set_option maxHeartbeats 2000000 in
theorem malloc_any (h:Md w F P all l ns lv) (hs:Sane E l) {c:Nat} (hc:c<8) (hn:x.n<18446744073709551616) :
  Calls Tryz.prog 55 #[.pointer (some ⟨P,0,none⟩),.int .i64 c,.agg (opC x)] w fun e w'=>e=.returned (.agg #[.int .i64 (Yax (l.map KB.b) x.n 16:Nat),.int .u64 (mtP (l.map KB.b) x.n 16:Nat),.int .u64 0])∧∃ N,MdR w w' F P all (tkR l (c+1) x.n 16 N) ns lv:=by
 obtain ⟨hop,hres,hg0⟩:=Ybq (w:=w) x
 obtain ⟨W0,hW0⟩:∃ W0,((w.alloc (.cells (opC x) 41)).alloc (.cells #[.int .i64 0,.int .u64 0,.int .u64 0] 46))=W0:=⟨_,rfl⟩
 rw [hW0] at hop hres hg0
 have hM0:=h.later hg0
 have HNF:Hid (¬ F (w.heap.size+1)):=Lib.hid (fun hF=>by have:=h.lt _ hF;omega)
 have HNO:Hid (¬ F w.heap.size):=Lib.hid (fun hF=>by have:=h.lt _ hF;omega)
 have HLT:Hid (∀ g,F g→g<W0.heap.size):=Lib.hid (fun g hg=>Nat.lt_of_lt_of_le (h.lt g hg) hg0.size)
 have HLW:=Lib.hid h.lt
 have HRX:=Lib.hid hres
 have HOX:=Lib.hid hop
 have HG0:=Lib.hid hg0
 obtain ⟨o0,o1,o2,o3,o4,o5,o6,o7⟩:=Yal hop
 unfold opC at hW0 ⊢
 have htk:=Yea (hM0.later (Yah (Yag _ none))) hs.lay hs.fz hs.un (ow:=c+1) hn (show 16<18446744073709551616 by decide)
 have how:=fun V=>Ybg hc V
 obtain ⟨er,her⟩:∃ er,Yax (l.map KB.b) x.n 16=er:=⟨_,rfl⟩
 obtain ⟨pp,hpp⟩:∃ pp,mtP (l.map KB.b) x.n 16=pp:=⟨_,rfl⟩
 rw [her,hpp] at htk ⊢
 replace htk:Calls Tryz.prog 86 #[.pointer (some ⟨P,0,none⟩),.int .i64 ((c:Int)+1),.int .u64 (x.n:Nat),.int .u64 16] W0.drew _:=htk
 have q1:W0.drew.cell? ⟨w.heap.size,1,none⟩=some (.int .u64 (x.n:Nat)):=o1
 clear hop hres hg0 hM0 h her hpp
 go_enter Tryz.func55,Tryz.ntmps55
 go_wp2
 go_region_law (first
  | (go_simp;go_at_call 38;go_must ((with_reducible refine (how _).mono ?_);rintro e w1 ⟨rfl,rfl⟩))
  | (go_simp;go_at_call 86;go_must ((with_reducible refine htk.mono ?_);rintro e w3 ⟨rfl,N,hM3⟩;have hM4:=MdR.first (Yah (Yag _ none)) hM3 HLT.out;have hbx:=Yay hM4.2 HRX.out HNF.out;obtain ⟨y0,y1,y2⟩:=Yaf hbx;obtain ⟨z0,z1,z2⟩:=Yak hbx)))
 all_goals
  go_wp2
  have q:=Yaz hbx (x':=.int .i64 (er:Nat)) (y':=.int .u64 (pp:Nat)) (z':=.int .u64 0)
  obtain ⟨k0,k1,k2⟩:=Yaf q
  refine bodyPost_ret (v:=.agg #[.int .i64 (er:Nat),.int .u64 (pp:Nat),.int .u64 0]) (by simp [results,Tryz.results55,go_sem,k0,k1,k2]) rfl ?_
  exact ⟨rfl,N,hM4.boxed HG0.out HLW.out (by omega) hbx (by decide) (by decide) (by decide) (Yaa (Yac _ _ _ _) (Yaa (Yac _ _ _ _) (Yac _ _ _ _)))⟩
set_option maxHeartbeats 2000000 in
theorem maligned_any (h:Md w F P all l ns lv) (hs:Sane E l) {c:Nat} (hc:c<8) (hn:x.n<18446744073709551616) (ha:x.a<18446744073709551616) :
  Calls Tryz.prog 56 #[.pointer (some ⟨P,0,none⟩),.int .i64 c,.agg (opC x)] w fun e w'=>e=.returned (.agg #[.int .i64 (Yax (l.map KB.b) x.n x.a:Nat),.int .u64 (mtP (l.map KB.b) x.n x.a:Nat),.int .u64 0])∧∃ N,MdR w w' F P all (tkR l (c+1) x.n x.a N) ns lv:=by
 obtain ⟨hop,hres,hg0⟩:=Ybq (w:=w) x
 obtain ⟨W0,hW0⟩:∃ W0,((w.alloc (.cells (opC x) 41)).alloc (.cells #[.int .i64 0,.int .u64 0,.int .u64 0] 46))=W0:=⟨_,rfl⟩
 rw [hW0] at hop hres hg0
 have hM0:=h.later hg0
 have HNF:Hid (¬ F (w.heap.size+1)):=Lib.hid (fun hF=>by have:=h.lt _ hF;omega)
 have HNO:Hid (¬ F w.heap.size):=Lib.hid (fun hF=>by have:=h.lt _ hF;omega)
 have HLT:Hid (∀ g,F g→g<W0.heap.size):=Lib.hid (fun g hg=>Nat.lt_of_lt_of_le (h.lt g hg) hg0.size)
 have HLW:=Lib.hid h.lt
 have HRX:=Lib.hid hres
 have HOX:=Lib.hid hop
 have HG0:=Lib.hid hg0
 obtain ⟨o0,o1,o2,o3,o4,o5,o6,o7⟩:=Yal hop
 unfold opC at hW0 ⊢
 have htk:=Yea (hM0.later (Yah (Yag _ none))) hs.lay hs.fz hs.un (ow:=c+1) hn ha
 have how:=fun V=>Ybg hc V
 obtain ⟨er,her⟩:∃ er,Yax (l.map KB.b) x.n x.a=er:=⟨_,rfl⟩
 obtain ⟨pp,hpp⟩:∃ pp,mtP (l.map KB.b) x.n x.a=pp:=⟨_,rfl⟩
 rw [her,hpp] at htk ⊢
 replace htk:Calls Tryz.prog 86 #[.pointer (some ⟨P,0,none⟩),.int .i64 ((c:Int)+1),.int .u64 (x.n:Nat),.int .u64 (x.a:Nat)] W0.drew _:=htk
 have q1:W0.drew.cell? ⟨w.heap.size,1,none⟩=some (.int .u64 (x.n:Nat)):=o1
 have q2:W0.drew.cell? ⟨w.heap.size,2,none⟩=some (.int .u64 (x.a:Nat)):=o2
 clear hop hres hg0 hM0 h her hpp
 go_enter Tryz.func56,Tryz.ntmps56
 go_wp2
 go_region_law (first
  | (go_simp;go_at_call 38;go_must ((with_reducible refine (how _).mono ?_);rintro e w1 ⟨rfl,rfl⟩))
  | (go_simp;go_at_call 86;go_must ((with_reducible refine htk.mono ?_);rintro e w3 ⟨rfl,N,hM3⟩;have hM4:=MdR.first (Yah (Yag _ none)) hM3 HLT.out;have hbx:=Yay hM4.2 HRX.out HNF.out;obtain ⟨y0,y1,y2⟩:=Yaf hbx;obtain ⟨z0,z1,z2⟩:=Yak hbx)))
 all_goals
  go_wp2
  have q:=Yaz hbx (x':=.int .i64 (er:Nat)) (y':=.int .u64 (pp:Nat)) (z':=.int .u64 0)
  obtain ⟨k0,k1,k2⟩:=Yaf q
  refine bodyPost_ret (v:=.agg #[.int .i64 (er:Nat),.int .u64 (pp:Nat),.int .u64 0]) (by simp [results,Tryz.results56,go_sem,k0,k1,k2]) rfl ?_
  exact ⟨rfl,N,hM4.boxed HG0.out HLW.out (by omega) hbx (by decide) (by decide) (by decide) (Yaa (Yac _ _ _ _) (Yaa (Yac _ _ _ _) (Yac _ _ _ _)))⟩
set_option maxHeartbeats 2000000 in
theorem mcalloc_not (h:Md w F P all l ns lv) {c:Nat} (hn:x.n<18446744073709551616) (ha:x.a<18446744073709551616) (hno:18446744073709551616≤x.n*x.a) :
  Calls Tryz.prog 57 #[.pointer (some ⟨P,0,none⟩),.int .i64 c,.agg (opC x)] w fun e w'=>e=.returned (.agg #[.int .i64 2,.int .u64 0,.int .u64 0])∧w.grownBy w' none:=by
 obtain ⟨hop,hres,hg0⟩:=Ybq (w:=w) x
 obtain ⟨W0,hW0⟩:∃ W0,((w.alloc (.cells (opC x) 41)).alloc (.cells #[.int .i64 0,.int .u64 0,.int .u64 0] 46))=W0:=⟨_,rfl⟩
 rw [hW0] at hop hres hg0
 have hM0:=h.later hg0
 have HNF:Hid (¬ F (w.heap.size+1)):=Lib.hid (fun hF=>by have:=h.lt _ hF;omega)
 have HNO:Hid (¬ F w.heap.size):=Lib.hid (fun hF=>by have:=h.lt _ hF;omega)
 have HLT:Hid (∀ g,F g→g<W0.heap.size):=Lib.hid (fun g hg=>Nat.lt_of_lt_of_le (h.lt g hg) hg0.size)
 have HLW:=Lib.hid h.lt
 have HRX:=Lib.hid hres
 have HOX:=Lib.hid hop
 have HG0:=Lib.hid hg0
 obtain ⟨o0,o1,o2,o3,o4,o5,o6,o7⟩:=Yal hop
 unfold opC at hW0 ⊢
 have hmu:=fun V=>mul_high x.n x.a hn ha hno V
 have hfl:=fun V=>Ya6 2 V
 clear hop hres hg0 hM0 h
 go_enter Tryz.func57,Tryz.ntmps57
 go_wp2_with (first
  | (go_at_call 87;go_must ((with_reducible refine (hmu _).mono ?_);rintro e w1 ⟨rfl,rfl⟩))
  | (go_at_call 33;go_must ((with_reducible refine (hfl _).mono ?_);rintro e w2 ⟨rfl,hg2⟩;have hbx:=(hg2.block _ (lt_of_block HRX.out) (by simp)).trans HRX.out;obtain ⟨y0,y1,y2⟩:=Yaf hbx;obtain ⟨z0,z1,z2⟩:=Yak hbx)))
 have q:=Yaz hbx (x':=.int .i64 2) (y':=.int .u64 0) (z':=.int .u64 0)
 obtain ⟨k0,k1,k2⟩:=Yaf q
 refine bodyPost_ret (v:=.agg #[.int .i64 2,.int .u64 0,.int .u64 0]) (by simp [results,Tryz.results57,go_sem,k0,k1,k2]) rfl ?_
 exact ⟨rfl,Yap (Yaa (Yam (Yaa HG0.out hg2) (some (w.heap.size+1))) (Yaa (Yac _ _ _ _) (Yaa (Yac _ _ _ _) (Yac _ _ _ _)))) (by omega)⟩
set_option maxHeartbeats 2000000 in
theorem mcalloc_any (h:Md w F P all l ns lv) (hs:Sane E l) {c:Nat} (hc:c<8) (hn:x.n<18446744073709551616) (ha:x.a<18446744073709551616) {t:Nat} (ht:t=x.n*x.a) (hlt:t<18446744073709551616) :
  Calls Tryz.prog 57 #[.pointer (some ⟨P,0,none⟩),.int .i64 c,.agg (opC x)] w fun e w'=>e=.returned (.agg #[.int .i64 (Yax (l.map KB.b) t 16:Nat),.int .u64 (mtP (l.map KB.b) t 16:Nat),.int .u64 0])∧∃ N,MdR w w' F P all (tkR l (c+1) t 16 N) ns lv:=by
 obtain ⟨hop,hres,hg0⟩:=Ybq (w:=w) x
 obtain ⟨W0,hW0⟩:∃ W0,((w.alloc (.cells (opC x) 41)).alloc (.cells #[.int .i64 0,.int .u64 0,.int .u64 0] 46))=W0:=⟨_,rfl⟩
 rw [hW0] at hop hres hg0
 have hM0:=h.later hg0
 have HNF:Hid (¬ F (w.heap.size+1)):=Lib.hid (fun hF=>by have:=h.lt _ hF;omega)
 have HNO:Hid (¬ F w.heap.size):=Lib.hid (fun hF=>by have:=h.lt _ hF;omega)
 have HLT:Hid (∀ g,F g→g<W0.heap.size):=Lib.hid (fun g hg=>Nat.lt_of_lt_of_le (h.lt g hg) hg0.size)
 have HLW:=Lib.hid h.lt
 have HRX:=Lib.hid hres
 have HOX:=Lib.hid hop
 have HG0:=Lib.hid hg0
 obtain ⟨o0,o1,o2,o3,o4,o5,o6,o7⟩:=Yal hop
 unfold opC at hW0 ⊢
 have htk:=Yea hM0 hs.lay hs.fz hs.un (ow:=c+1) hlt (show 16<18446744073709551616 by decide)
 have hmu:=fun V=>mul_low x.n x.a t hn ha ht hlt V
 have how:=fun V=>Ybg hc V
 obtain ⟨er,her⟩:∃ er,Yax (l.map KB.b) t 16=er:=⟨_,rfl⟩
 obtain ⟨pp,hpp⟩:∃ pp,mtP (l.map KB.b) t 16=pp:=⟨_,rfl⟩
 rw [her,hpp] at htk ⊢
 replace htk:Calls Tryz.prog 86 #[.pointer (some ⟨P,0,none⟩),.int .i64 ((c:Int)+1),.int .u64 (t:Nat),.int .u64 16] W0 _:=htk
 clear hop hres hg0 hM0 h her hpp ht
 go_enter Tryz.func57,Tryz.ntmps57
 go_wp2_with (first
  | (go_at_call 87;go_must ((with_reducible refine (hmu _).mono ?_);rintro e w1 ⟨rfl,rfl⟩))
  | (go_at_call 38;go_must ((with_reducible refine (how _).mono ?_);rintro e w1 ⟨rfl,rfl⟩))
  | (go_at_call 86;go_must ((with_reducible refine htk.mono ?_);rintro e w3 ⟨rfl,N,hM4⟩;have hbx:=Yay hM4.2 HRX.out HNF.out;obtain ⟨y0,y1,y2⟩:=Yaf hbx;obtain ⟨z0,z1,z2⟩:=Yak hbx)))
 have q:=Yaz hbx (x':=.int .i64 (er:Nat)) (y':=.int .u64 (pp:Nat)) (z':=.int .u64 0)
 obtain ⟨k0,k1,k2⟩:=Yaf q
 refine bodyPost_ret (v:=.agg #[.int .i64 (er:Nat),.int .u64 (pp:Nat),.int .u64 0]) (by simp [results,Tryz.results57,go_sem,k0,k1,k2]) rfl ?_
 exact ⟨rfl,N,hM4.boxed HG0.out HLW.out (by omega) hbx (by decide) (by decide) (by decide) (Yaa (Yac _ _ _ _) (Yaa (Yac _ _ _ _) (Yac _ _ _ _)))⟩
end
end
section
def KB.own (x:KB) (o:Int):KB:=⟨⟨x.b.off,x.b.s,x.b.u,o,x.b.n⟩,x.a,x.m,x.c,x.d⟩
section
variable {w w' w1:World} {F:Nat→Prop} {P all E b:Nat} {ns:List (ByteArray × Nat)} {lv:Nat→Bool} {l A C:List KB} {x:OpM} {bs:List Blk} {p:Nat} {ow:List Int}
theorem Ydh (V:World) (a:Int):Ycj (V.alloc (.cells #[.int .i64 a] 3)) V.heap.size [a]:=by
 have hb:=Yab V (.cells #[.int .i64 a] 3)
 intro j y hj
 have hlt:j<1:=(List.getElem?_eq_some_iff.1 hj).1
 obtain rfl:j=0:=by omega
 have hy:a=y:=by simpa using hj
 rw [← hy]
 exact Yas hb rfl
theorem ints_two (V:World) (a b:Int):Ycj (V.alloc (.cells #[.int .i64 a,.int .i64 b] 3)) V.heap.size [a,b]:=by
 have hb:=Yab V (.cells #[.int .i64 a,.int .i64 b] 3)
 intro j y hj
 have hlt:j<2:=(List.getElem?_eq_some_iff.1 hj).1
 rcases (show j=0∨j=1 by omega) with rfl|rfl
 ·have hy:a=y:=by simpa using hj
  rw [← hy]
  exact Yas hb rfl
 ·have hy:b=y:=by simpa using hj
  rw [← hy]
  exact Yas hb rfl
theorem Ycm (h:Ybj bs p ow=0):∃ i,fstN (pF p) bs=some i∧(bs.getD i default).o∈ow∧Yei bs p ow=i:=by
 unfold Ybj at h
 unfold Yei
 cases e:fstN (pF p) bs with
 | none=>rw [e] at h;cases h
 | some i =>
  rw [e] at h
  dsimp only at h ⊢
  split at h
  ·rename_i hm
   exact ⟨i,rfl,hm,by rw [if_pos hm]⟩
  ·cases h
set_option maxHeartbeats 2000000 in
theorem mpublish_bad (h:Md w F P all l ns lv) (hs:Sane E l) {c:Nat} (hc:c<8) (hne:Ybj (l.map KB.b) x.off [((c:Int)+1)]≠0) :
  Calls Tryz.prog 65 #[.pointer (some ⟨P,0,none⟩),.int .i64 c,.agg (opC x)] w fun e w'=>e=.returned (.agg #[.int .i64 (Ybj (l.map KB.b) x.off [((c:Int)+1)]:Nat),.int .u64 0,.int .u64 0])∧w.grownBy w' none:=by
 obtain ⟨hop,hres,hg0⟩:=Ybq (w:=w) x
 obtain ⟨W0,hW0⟩:∃ W0,((w.alloc (.cells (opC x) 41)).alloc (.cells #[.int .i64 0,.int .u64 0,.int .u64 0] 46))=W0:=⟨_,rfl⟩
 rw [hW0] at hop hres hg0
 have hM0:=h.later hg0
 have HNF:Hid (¬ F (w.heap.size+1)):=Lib.hid (fun hF=>by have:=h.lt _ hF;omega)
 have HNO:Hid (¬ F w.heap.size):=Lib.hid (fun hF=>by have:=h.lt _ hF;omega)
 have HLT:Hid (∀ g,F g→g<W0.heap.size):=Lib.hid (fun g hg=>Nat.lt_of_lt_of_le (h.lt g hg) hg0.size)
 have HLW:=Lib.hid h.lt
 have HRX:=Lib.hid hres
 have HOX:=Lib.hid hop
 have HG0:=Lib.hid hg0
 obtain ⟨o0,o1,o2,o3,o4,o5,o6,o7⟩:=Yal hop
 unfold opC at hW0 ⊢
 have how:=fun V=>Ybg hc V
 obtain ⟨W1,hW1⟩:∃ W1,(W0.alloc (.cells #[.int .i64 ((c:Int)+1)] 3)).drew=W1:=⟨_,rfl⟩
 have hg1:W0.grownBy W1 none:=by rw [← hW1];exact Yah (World.grownBy_alloc _ _ _)
 have hin1:Ycj W1 W0.heap.size [((c:Int)+1)]:=by
  rw [← hW1]
  exact (Ydh W0 _).later (Yah (Yag _ none))
 have hus:=Ycs (hM0.later hg1) hs.lay x.off (ow:=[((c:Int)+1)]) (m:=1) rfl (by decide) hin1 1
 obtain ⟨ui,hui⟩:∃ ui,Yei (l.map KB.b) x.off [((c:Int)+1)]=ui:=⟨_,rfl⟩
 obtain ⟨ue,hue⟩:∃ ue,Ybj (l.map KB.b) x.off [((c:Int)+1)]=ue:=⟨_,rfl⟩
 have p3:W0.drew.cell? ⟨w.heap.size,3,none⟩=some (.int .u64 (x.off:Nat)):=o3
 have p4:W1.cell? ⟨w.heap.size,3,none⟩=some (.int .u64 (x.off:Nat)):=hg1.cell o3 (by simp)
 have p5:(W0.alloc (.cells #[.int .i64 ((c:Int)+1)] 3)).cell? ⟨w.heap.size,3,none⟩=some (.int .u64 (x.off:Nat)):=(World.grownBy_alloc W0 _ none).cell o3 (by simp)
 have HG1:=Lib.hid hg1
 rw [hui,hue] at hus
 rw [hue] at hne ⊢
 have h1:¬ ((ue:Int)=0):=by omega
 have h2:((ue:Int) != 0)=true:=by simp;omega
 have hfl:=fun V=>Ya6 (ue:Int) V
 clear hop hres hg0 hM0 h hui hue hin1 hg1 hne
 go_enter Tryz.func65,Tryz.ntmps65
 go_wp2
 go_region_law (first
  | (go_simp;go_at_call 38;go_must ((with_reducible refine (how _).mono ?_);rintro e v1 ⟨rfl,rfl⟩))
  | (go_simp;go_at_call 88;go_must ((with_reducible refine hus.mono ?_);rintro e w2 ⟨rfl,hg2⟩;have hGG:=Yaa HG1.out hg2)))
 all_goals
  have hbx:=(hGG.block _ (lt_of_block HRX.out) (by simp)).trans HRX.out
  go_wp2_with (go_at_call 33;go_must ((with_reducible refine (hfl _).mono ?_);rintro e w3 ⟨rfl,hg3⟩;have hbx3:=(hg3.block _ (lt_of_block hbx) (by simp)).trans hbx;obtain ⟨y0,y1,y2⟩:=Yaf hbx3;obtain ⟨z0,z1,z2⟩:=Yak hbx3))
  have q:=Yaz hbx3 (x':=.int .i64 (ue:Nat)) (y':=.int .u64 0) (z':=.int .u64 0)
  obtain ⟨k0,k1,k2⟩:=Yaf q
  refine bodyPost_ret (v:=.agg #[.int .i64 (ue:Nat),.int .u64 0,.int .u64 0]) (by simp [results,Tryz.results65,go_sem,k0,k1,k2]) rfl ?_
  exact ⟨rfl,Yap (Yaa (Yam (Yaa HG0.out (Yaa hGG hg3)) (some (w.heap.size+1))) (Yaa (Yac _ _ _ _) (Yaa (Yac _ _ _ _) (Yac _ _ _ _)))) (by omega)⟩
set_option maxHeartbeats 2000000 in
theorem mpublish_ok (h:Md w F P all l ns lv) (hs:Sane E l) {c:Nat} (hc:c<8) (hz:Ybj (l.map KB.b) x.off [((c:Int)+1)]=0) {i:Nat} (hi:fstN (pF x.off) (l.map KB.b)=some i) {y:KB} (hl:l=A++y::C) (hA:A.length=i) :
  Calls Tryz.prog 65 #[.pointer (some ⟨P,0,none⟩),.int .i64 c,.agg (opC x)] w fun e w'=>e=.returned (.agg #[.int .i64 0,.int .u64 0,.int .u64 0])∧MdR w w' F P all (A++y.own 0::C) ns lv:=by
 obtain ⟨hop,hres,hg0⟩:=Ybq (w:=w) x
 obtain ⟨W0,hW0⟩:∃ W0,((w.alloc (.cells (opC x) 41)).alloc (.cells #[.int .i64 0,.int .u64 0,.int .u64 0] 46))=W0:=⟨_,rfl⟩
 rw [hW0] at hop hres hg0
 have hM0:=h.later hg0
 have HNF:Hid (¬ F (w.heap.size+1)):=Lib.hid (fun hF=>by have:=h.lt _ hF;omega)
 have HNO:Hid (¬ F w.heap.size):=Lib.hid (fun hF=>by have:=h.lt _ hF;omega)
 have HLT:Hid (∀ g,F g→g<W0.heap.size):=Lib.hid (fun g hg=>Nat.lt_of_lt_of_le (h.lt g hg) hg0.size)
 have HLW:=Lib.hid h.lt
 have HRX:=Lib.hid hres
 have HOX:=Lib.hid hop
 have HG0:=Lib.hid hg0
 obtain ⟨o0,o1,o2,o3,o4,o5,o6,o7⟩:=Yal hop
 unfold opC at hW0 ⊢
 have how:=fun V=>Ybg hc V
 obtain ⟨W1,hW1⟩:∃ W1,(W0.alloc (.cells #[.int .i64 ((c:Int)+1)] 3)).drew=W1:=⟨_,rfl⟩
 have hg1:W0.grownBy W1 none:=by rw [← hW1];exact Yah (World.grownBy_alloc _ _ _)
 have hin1:Ycj W1 W0.heap.size [((c:Int)+1)]:=by
  rw [← hW1]
  exact (Ydh W0 _).later (Yah (Yag _ none))
 have hus:=Ycs (hM0.later hg1) hs.lay x.off (ow:=[((c:Int)+1)]) (m:=1) rfl (by decide) hin1 1
 obtain ⟨ui,hui⟩:∃ ui,Yei (l.map KB.b) x.off [((c:Int)+1)]=ui:=⟨_,rfl⟩
 obtain ⟨ue,hue⟩:∃ ue,Ybj (l.map KB.b) x.off [((c:Int)+1)]=ue:=⟨_,rfl⟩
 have p3:W0.drew.cell? ⟨w.heap.size,3,none⟩=some (.int .u64 (x.off:Nat)):=o3
 have p4:W1.cell? ⟨w.heap.size,3,none⟩=some (.int .u64 (x.off:Nat)):=hg1.cell o3 (by simp)
 have p5:(W0.alloc (.cells #[.int .i64 ((c:Int)+1)] 3)).cell? ⟨w.heap.size,3,none⟩=some (.int .u64 (x.off:Nat)):=(World.grownBy_alloc W0 _ none).cell o3 (by simp)
 have HG1:=Lib.hid hg1
 obtain ⟨i',hi1,_,hi3⟩:=Ycm hz
 have hii:ui=i:=by rw [hi] at hi1;injection hi1 with hi1;rw [← hui,hi3,hi1]
 rw [hui,hz,hii] at hus
 obtain ⟨g,cap,f,M,hst,hk,hPg,hFg,hFM,hmp⟩:=hM0.ex
 obtain ⟨n,hn⟩:∃ n,l.length=n:=⟨_,rfl⟩
 rw [hn] at hst hk
 have hk2:=hk
 rw [hl] at hk2
 obtain ⟨hfi,hin,_⟩:=Ybn hk2 hA y
 have hin':(i:Int)<(n:Int):=by omega
 have HST:=Lib.hid hst
 have HM0:=Lib.hid hM0
 have HK:=Lib.hid hk2
 have HFI:=Lib.hid hfi
 have HN:=Lib.hid hn
 have HPN:=Lib.hid (And.intro hPg (And.intro hFg (And.intro hFM hmp)))
 clear hop hres hg0 hM0 h hui hue hin1 hg1 hz hi hi1 hi3 hii hst hk hk2 hfi hmp hn
 go_enter Tryz.func65,Tryz.ntmps65
 go_wp2
 go_region_law (first
  | (go_simp;go_at_call 38;go_must ((with_reducible refine (how _).mono ?_);rintro e v1 ⟨rfl,rfl⟩))
  | (go_simp;go_at_call 88;go_must ((with_reducible refine hus.mono ?_);rintro e w2 ⟨rfl,hg2⟩;have hGG:=Yaa HG1.out hg2)))
 all_goals
  have hst2:=HST.out.later hGG
  have e1:=hst2.cells.2.1
  have e2:=(hst2.row.cells hin).2.2.2.1
  have e3:=hst2.row.frz (i*6+3)
  have hr3:=hst2.row.set (v:=.int .i64 0) (x:=y.own 0) hin (show 3<6 by decide) (by rw [HFI.out];rfl)
  have hg3:=Yac w2 g (i*6+3) (.int .i64 0)
  have hM2:Md w2 F P all (A++y::C) ns lv:=by rw [← hl];exact HM0.out.later hGG
  have hput:=hM2.put hst2 (by rw [← hl];exact HN.out) HK.out HPN.out.1 HPN.out.2.1 HPN.out.2.2.1 (HPN.out.2.2.2.later hGG) hA hr3 hg3 (.inr ⟨rfl,rfl,fun h=>h⟩)
  obtain ⟨W5,hW5⟩:∃ W5,w2.setCell ⟨g,i*6+3,none⟩ (.int .i64 0)=W5:=⟨_,rfl⟩
  rw [hW5] at hput
  have hM5:=MdR.first hGG hput HLT.out
  have hbx3:=Yay hM5.2 HRX.out HNF.out
  obtain ⟨y0,y1,y2⟩:=Yaf hbx3
  obtain ⟨z0,z1,z2⟩:=Yak hbx3
  have HM5:=Lib.hid hM5
  clear hr3 hg3 hM2 hput hM5 hst2
  go_wp2
  have q:=Yaz hbx3 (x':=.int .i64 0) (y':=.int .u64 0) (z':=.int .u64 0)
  obtain ⟨k0,k1,k2⟩:=Yaf q
  refine bodyPost_ret (v:=.agg #[.int .i64 0,.int .u64 0,.int .u64 0]) (by simp [results,Tryz.results65,go_sem,k0,k1,k2]) rfl ?_
  exact ⟨rfl,HM5.out.boxed HG0.out HLW.out (by omega) hbx3 (by decide) (by decide) (by decide) (Yaa (Yac _ _ _ _) (Yaa (Yac _ _ _ _) (Yac _ _ _ _)))⟩
end
end
end Go.Proofs.YtfhiljglfhekdaaGreat
