/-
  Nobody's operation changes another one's block, but what is everybody's. The statement ModelApart; no condition.
-/
import Derived.Test.YtfhiljglfhekdaaGreatKogH
import Derived.Test.YtfhiljglfhekdaaGreatLZza
import Derived.Test.YtfhiljglfhekdaaGreatRows
import Derived.Lib.SmallJoins
import Derived.ProofKit
import Derived.OpenShut
import Derived.Carry
import Derived.Deep.RegionHeld3
import Derived.ChangeOld
namespace Go.Proofs.YtfhiljglfhekdaaGreat.modelApart
open Go.ChangeShapes Go.WideShapes Go.ChangeAt Go.RowKit
open Go.ChangeMaps (open_string shut_string)
set_option linter.unusedVariables false
set_option linter.unusedSimpArgs false
set_option maxRecDepth 100000

theorem info_kb6:(Tryz.prog.info? 53).map (·.size)=some 6:=by kernel_rfl
/-- a call of the code's: what was told ahead of it stays as it was told -/
theorem code_at {w0 W V:World} {P base K:Nat} {v:Value} {S S':MS} {c:Int} {x:OpM} {e p q:Nat} (h:Pl w0 P base v K S W) (hV:W.grownBy V none) (hx:OpOk x) (ha:Ybz 4800 S c x S' e p q) :
  Calls Tryz.prog 13 #[.pointer (some ⟨P,0,none⟩),.int .i64 c,.agg (opC x)] V fun en V1=>en=.returned (.agg #[.int .i64 (e:Nat),.int .u64 (p:Nat),.int .u64 (q:Nat)])∧(∃ F l,Md V1 F P 4800 l S'.nm S'.lv∧Rep l S')∧(∃ p:Nat→Prop,Ybo p V V1∧∀ g,p g→g<W.heap.size)∧Ybw w0 V V1:=by
 obtain ⟨F,l,h1,h2,h3,h4⟩:=h.cd.ex
 refine (mstep (h1.later hV) h3 h2 hx (Nat.le_refl _) ha).mono ?_
 rintro en V1 ⟨rfl,l',hr,hR⟩
 exact ⟨rfl,⟨_,l',hR.1,hr⟩,⟨F,hR.2,fun g hg=>(h4 g hg).2.lt⟩,⟨F,hR.2,fun g hg=>⟨(h4 g hg).1,(h4 g hg).2.later hV⟩⟩⟩
/-- where another one's block stands behind a call -/
theorem there_at {K:Nat} {S S':MS} {c:Int} {x:OpM} {e p v i:Nat} (hM:HM K S) (hM':HM (K+1) S') (ha:Ybz 4800 S c x S' e p v) (hi:i<S.bs.length) (hu:(S.bs.getD i default).u=true) (h0:(S.bs.getD i default).o≠0) (hc:(S.bs.getD i default).o≠c+1) :
  ∃ k,k<S'.bs.length∧S'.bs.getD k default=S.bs.getD i default∧wdL S' k=wdL S i∧∀ j,j<k→(S'.bs.getD j default).off≠(S.bs.getD i default).off:=by
 have hm:S.bs.getD i default∈S.bs:=by rw [List.getD_eq_getElem?_getD,List.getElem?_eq_getElem hi];exact List.getElem_mem hi
 obtain ⟨h1,h2⟩:=ha.apart hM (Yb3.2 ⟨hm,hu⟩) h0 hc
 obtain ⟨k,hk,ek⟩:=List.mem_iff_getElem.1 (Yb3.1 h1).1
 have eg:S'.bs.getD k default=S.bs.getD i default:=by rw [List.getD_eq_getElem?_getD,List.getElem?_eq_getElem hk,Option.getD_some,ek]
 refine ⟨k,hk,eg,?_,fun j hj=>?_⟩
 ·unfold wdL
  rw [eg,if_pos hu,if_pos hu,h2]
 ·have hup:=hM'.hs.q.ch.up
  have:=List.pairwise_iff_getElem.1 hup j k (by omega) hk hj
  rw [ek] at this
  rw [List.getD_eq_getElem?_getD,List.getElem?_eq_getElem (show j<S'.bs.length by omega),Option.getD_some]
  omega
set_option maxHeartbeats 16000000 in
theorem core {w:World} {la:Option Addr} {c:Nat} {l:List Yc4} (hn:l.length≤maxLen) (ho:∀ q∈l,Yda q) (hp:Yco w la l) {q:Yc4} (hq:Yda q):Calls Tryz.prog 5 #[.slice la l.length c,.agg q.C] w fun e w'=>e=.returned (.bool true)∧w.grownBy w' none:=by
 have hb3:=Yab w (.cells q.C 43)
 have hg0:=World.grownBy_alloc w (.cells q.C 43) none
 obtain ⟨W0,hW0⟩:∃ W,w.alloc (.cells q.C 43)=W:=⟨_,rfl⟩
 rw [hW0] at hb3 hg0
 have HG0:=Lib.hid hg0
 clear hg0
 rcases Bool.eq_false_or_eq_true (fewL l) with hf|hf
 ·have h25:=(fewL_is hf).1
  by_cases h60:60<q.x.name.size
  ·have h60':(60:Int)<(q.x.name.size:Int):=by omega
   go_enter Tryz.func5,Tryz.ntmps5
   go_wp2_with (first
    | (go_at_call 9;go_must ((with_reducible refine (Yc3 _).mono ?_);rintro en w1 ⟨rfl,hg1'⟩;have hg1:=Yaa HG0.out hg1';have hc1:=few14 (c:=c) (hp.later hg1) rfl hn;rw [hf] at hc1;have b1:=Yan hb3 hg1';have r8:w1.cell? ⟨w.heap.size,8,none⟩=some (.string q.x.name):=Yas b1 rfl))
    | (go_at_call 10;go_must ((with_reducible refine hc1.mono ?_);rintro en w2 ⟨rfl,hw2⟩;subst w2)))
   go_ret
   exact ⟨rfl,hg1⟩
  ·have h60':¬ (60:Int)<(q.x.name.size:Int):=by omega
   go_enter Tryz.func5,Tryz.ntmps5
   go_wp2_with (first
    | (go_at_call 9;go_must ((with_reducible refine (Yc3 _).mono ?_);rintro en w1 ⟨rfl,hg1'⟩;have hg1:=Yaa HG0.out hg1';have hc1:=few14 (c:=c) (hp.later hg1) rfl hn;rw [hf] at hc1;have b1:=Yan hb3 hg1';have r8:w1.cell? ⟨w.heap.size,8,none⟩=some (.string q.x.name):=Yas b1 rfl))
    | (go_at_call 10;go_must ((with_reducible refine hc1.mono ?_);rintro en w2 ⟨rfl,hw2⟩;subst w2;have hc2:=played14 (c:=c) (hp.later hg1) ho rfl h25))
    | (go_at_call 11;go_must ((with_reducible refine hc2.mono ?_);rintro en w3 ⟨P,base,K,S,cs,rfl,s0,s1,hK,hPl⟩;have z7:=Yab w3 (.cells sZ 36);have g7:=World.grownBy_alloc w3 (.cells sZ 36) none;obtain ⟨Z7,hZ7⟩:∃ Z,w3.alloc (.cells sZ 36)=Z:=⟨_,rfl⟩;rw [hZ7] at z7 g7;unfold sZ at hZ7;have hPz:=hPl.later g7;have l7:=hPl.gr.size))
    | (refine Yae rfl 36 _ _ rfl _ 0 rfl rfl z7 (by rw [s0];exact Nat.le_refl _) (by rw [Yai,s0]) s1 ?_;intro W4 p4 g4;rw [Yau _ _ s0] at p4;have hP4:=hPz.past g4 z7 l7 Ybt (by decide) (by decide);have G4:=Yaa hg1 hP4.gr;have b4:=Yan b1 hP4.gr;have hc5:=hP4.blocks)
    | (go_at_call 15;go_must ((with_reducible refine hc5.mono ?_);rintro en w5 ⟨g,gc,rfl,hB5,hg5⟩)))
   have HY:Hid (OpOk (resM S.bs q.x q.at_)):=Lib.hid (resM_ok hP4.hm hq.x q.at_)
   obtain ⟨y,ey⟩:∃ y,resM S.bs q.x q.at_=y:=⟨_,rfl⟩
   have hres:∀ V,W4.grownBy V none→Calls Tryz.prog 14 #[.agg cs,.agg q.C] V fun en W1=>en=.returned (.agg (opC y))∧V.grownBy W1 none:=fun V hV=>by
    rw [← ey]
    exact (hP4.later hV).resolve q.c hq.at_ q.kill
   rw [ey] at HY
   obtain ⟨S',e,p,v,ha⟩:=step_total 4800 S q.c y
   have hM':HM (K+1) S':=ha.is hP4.hm HY.out (Nat.le_refl _)
   have hlo':3776<S'.E:=Nat.lt_of_lt_of_le hP4.lo ha.end_
   have hth:=fun i hi hu h0 hc=>there_at (i:=i) hP4.hm hM' ha hi hu h0 hc
   have hdo:=fun V hV=>code_at (V:=V) hP4 hV HY.out ha
   have hS:∀ V,w5.grownBy V none→V.cell? ⟨w.heap.size,0,none⟩=some (.int .i64 q.c)∧V.heap[w3.heap.size]?=some (.cells cs 36 (0,0))∧V.heap[w.heap.size]?=some (.cells q.C 43 (0,0)):=fun V hV=>⟨Yas (Yan b4 (Yaa hg5 hV)) rfl,Yan p4 (Yaa hg5 hV),Yan b4 (Yaa hg5 hV)⟩
   have hos:∀ i,i<S.bs.length→(S.bs.getD i default).u=true→0≤(S.bs.getD i default).o∧(S.bs.getD i default).o≤8:=fun i hi hu=>by
    have hm:S.bs.getD i default∈S.bs:=by rw [List.getD_eq_getElem?_getD,List.getElem?_eq_getElem hi];exact List.getElem_mem hi
    exact ((hP4.hm.hs.q.is _ hm).us hu).2
   have hwl:∀ i,i<S.bs.length→(wdL S i).length≤1000000:=fun i hi=>Nat.le_trans (wdL_len hP4.hm hi) (by decide)
   have hfew:=hP4.hm.hs.few
   have hfew':=hM'.hs.few
   have HS:=Lib.hid hS
   have HRES:=Lib.hid hres
   have HDO:=Lib.hid hdo
   have HTH:=Lib.hid hth
   have HOS:=Lib.hid hos
   have HWL:=Lib.hid hwl
   have HM':=Lib.hid hM'
   have HLO:=Lib.hid hlo'
   have HB5:=Lib.hid hB5
   have HB4:=Lib.hid b4
   have HQC:=Lib.hid hq.c
   have HG5:=Lib.hid hg5
   have HG4:=Lib.hid G4
   have hl4:=hP4.gr.size
   have HP4g:=Lib.hid hP4.gr
   clear hS hres hdo hth hos hwl hM' hlo' hB5 ha ey hP4 hPz hPl p4 b4 hb3 b1 z7 g7 g4 hc1 hc2 hc5 r8 G4 hq hp ho hn
   have HG:w5.grownBy w5.drew none:=Yah (Yag _ _)
   refine wp_region_held_drew (S:=fun V=>V.cell? ⟨w.heap.size,0,none⟩=some (.int .i64 q.c)∧V.heap[w3.heap.size]?=some (.cells cs 36 (0,0))∧V.heap[w.heap.size]?=some (.cells q.C 43 (0,0))) (by kernel_rfl) (HS.out _ HG) (fun hHeld=>?_)
   refine hY 0 36 (v:=?_) rfl rfl hHeld ?y0 ?r0
   case y0=>(intro w hSw;(try dsimp only at hSw);go_simp;try (with_reducible rfl))
   case r0 =>
   simp only [Act.put,List.setIfInBounds_toArray,List.set_cons_zero,List.set_cons_succ]
   refine hY 1 37 (v:=?_) rfl rfl hHeld ?y1 ?r1
   case y1=>(intro w hSw;(try dsimp only at hSw);go_simp;try (with_reducible rfl))
   case r1 =>
   simp only [Act.put,List.setIfInBounds_toArray,List.set_cons_zero,List.set_cons_succ]
   refine hY 2 38 (v:=?_) rfl rfl hHeld ?y2 ?r2
   case y2=>(intro w hSw;(try dsimp only at hSw);go_simp;try (with_reducible rfl))
   case r2 =>
   simp only [Act.put,List.setIfInBounds_toArray,List.set_cons_zero,List.set_cons_succ]
   refine hY 3 39 (v:=.agg cs) rfl rfl hHeld ?y3 ?r3
   case y3=>exact Ycz 36 _ rfl _ 0 rfl (fun W hW=>hW.2.1) cs (fun j v hj=>by simpa using hj) _ Tryz.underlying36 rfl (by rw [Yai,s0])
   case r3 =>
   simp only [Act.put,List.setIfInBounds_toArray,List.set_cons_zero,List.set_cons_succ]
   refine hY 4 40 (v:=.agg q.C) rfl rfl hHeld ?y4 ?r4
   case y4=>exact Ycz 43 _ rfl _ 0 rfl (fun W hW=>hW.2.2) q.C (fun j v hj=>by simpa using hj) _ Tryz.underlying43 rfl (by exact info_call)
   case r4 =>
   simp only [Act.put,List.setIfInBounds_toArray,List.set_cons_zero,List.set_cons_succ]
   refine wpAnyH_ready (rs:=[5]) (by kernel_rfl) (by simp) (AllReadyH.cons rfl (fun K hK=>?_) AllReadyH.nil)
   clear hHeld
   go_simp
   (go_at_call 14;go_must ((with_reducible refine (HRES.out _ (Yaa hg5 HG)).mono ?_);rintro en w6 ⟨rfl,hg6⟩))
   have HG6:=Yaa HG hg6
   refine hK.out _ _ (HS.out _ HG6) (fun hHeld=>?_)
   clear hK K
   try simp only [Act.put,List.setIfInBounds_toArray,List.set_cons_zero,List.set_cons_succ]
   refine wpAnyH_ready (rs:=[6]) (by kernel_rfl) (by simp) (AllReadyH.cons rfl (fun K hK=>?_) AllReadyH.nil)
   clear hHeld
   go_simp
   (go_at_call 13;go_must ((with_reducible refine (HDO.out _ (Yaa hg5 HG6)).mono ?_);rintro en w7 ⟨rfl,⟨F7,l7,hmd,hrep⟩,⟨p7,ht7,hp7⟩,hs7⟩))
   have b7:=hs7.box (Yan HB4.out (Yaa hg5 HG6)) (by decide) (by decide) (by decide)
   have hS7:w7.cell? ⟨w.heap.size,0,none⟩=some (.int .i64 q.c)∧w7.heap[w3.heap.size]?=some (.cells cs 36 (0,0))∧w7.heap[w.heap.size]?=some (.cells q.C 43 (0,0)):=⟨Yas b7 rfl,hs7.box (HS.out _ HG6).2.1 (by decide) (by decide) (by decide),b7⟩
   refine hK.out _ _ hS7 (fun hHeld=>?_)
   clear hK K
   try simp only [Act.put,List.setIfInBounds_toArray,List.set_cons_zero,List.set_cons_succ]
   refine wpAnyH_done (by kernel_rfl) ?_ _
   clear hHeld
   have hBb:=((HB5.out.later HG6).turned ht7 hp7 hp7)
   have G7:=Yaa hg1 (hs7.grown (Yaa HP4g.out (Yaa hg5 HG6)))
   have hc8:=md_blocks hmd hrep HM'.out HLO.out
   have HBB:=Lib.hid hBb
   clear hS7 hBb hmd hrep ht7 hp7 hs7
   go_wp2_with (first
    | (go_at_call 15;go_must ((with_reducible refine hc8.mono ?_);rintro en w8 ⟨g2,gc2,rfl,hB8,hg8⟩)))
   have b8:=Yan b7 hg8
   obtain ⟨m,hm⟩:∃ m,S.bs.length=m:=⟨_,rfl⟩
   obtain ⟨m2,hm2⟩:∃ m2,S'.bs.length=m2:=⟨_,rfl⟩
   rw [hm] at hfew
   rw [hm2] at hfew'
   rw [hm,hm2]
   have HBA:=Lib.hid hB8
   have HBB8:=Lib.hid (HBB.out.later hg8)
   have HMM:=Lib.hid hm
   have HMM2:=Lib.hid hm2
   have HB8:=Lib.hid b8
   have HG8:=Lib.hid (Yaa G7 hg8)
   obtain ⟨kw,hkw⟩:∃ kw,IntKind.i64.wrap (q.c+1)=kw:=⟨_,rfl⟩
   have HKW:=Lib.hid hkw
   clear hB8 hm hm2 b7 b8 hc8 HG G7
   go_loopw [11] (fun u wr=>∃ i:Nat,i≤m∧u=.int .i64 i∧w8.grownBy wr none) (fun u _=>m - (intOf u).toNat)
   case atStart=>exact ⟨0,Nat.zero_le _,rfl,Yag _ _⟩
   case round =>
    obtain ⟨i,hi,rfl,hgr⟩:=hrel
    by_cases h1:i<m
    ·have h1':(i:Int)<(m:Int):=by omega
     have hil:i<S.bs.length:=by rw [HMM.out];exact h1
     obtain ⟨g',pa,pc,eg,-,hat⟩:=HBB8.out.at_ hil
     injection eg with eg
     injection eg with eg _ _
     subst eg
     have hth:=fun hu h0 hc=>HTH.out i hil hu h0 hc
     have hos:=fun hu=>HOS.out i hil hu
     have hwl:=HWL.out i hil
     obtain ⟨D,eD⟩:∃ D,wdL S i=D:=⟨_,rfl⟩
     obtain ⟨b,eb⟩:∃ b,S.bs.getD i default=b:=⟨_,rfl⟩
     rw [eD] at hwl
     simp only [eD,eb] at hat hth hos
     obtain ⟨bo,bs,bu,bw,bn⟩:=b
     obtain ⟨dn,edn⟩:∃ dn,D.length=dn:=⟨_,rfl⟩
     simp only [edn] at hat
     obtain ⟨⟨y0,y1,y2,y3,y4,y5⟩,-⟩:=hat wr hgr
     have HTI:=Lib.hid hth
     have HOI:=Lib.hid hos
     have HAT:=Lib.hid hat
     have z12:=Yab wr (.cells #[.int .u64 0,.int .u64 0,.bool false,.int .i64 0,.int .u64 0,.slice none 0 0] 53)
     have gz:=World.grownBy_alloc wr (.cells #[.int .u64 0,.int .u64 0,.bool false,.int .i64 0,.int .u64 0,.slice none 0 0] 53) none
     obtain ⟨Zb,hZb⟩:∃ Z,wr.alloc (.cells #[.int .u64 0,.int .u64 0,.bool false,.int .i64 0,.int .u64 0,.slice none 0 0] 53)=Z:=⟨_,rfl⟩
     rw [hZb] at z12 gz
     clear hth hos hat eD eb hil
     cases bu with
     | false =>
      go_wp2_with (refine Yae rfl 53 _ _ rfl _ 0 rfl rfl z12 (by exact Nat.le_refl _) (by exact info_kb6) (by simp [Value.oneCell']) ?_;intro Wb pb gb;rw [Yau _ _ (by rfl)] at pb;have hgb:w8.grownBy Wb none:=Yaj (Yaa hgr gz) gb (fun i hi=>.inl (by injection hi with hi;have:=hgr.size;omega));obtain ⟨t0,t1,t2,t3,t4,t5⟩:=Ya5 pb;have r0:Wb.cell? ⟨w.heap.size,0,none⟩=some (.int .i64 q.c):=Yas (Yan HB8.out hgb) rfl)
      go_roundw
      case rel=>exact ⟨i+1,by omega,by go_num,hgb⟩
      case measure=>simp [intOf];omega
     | true =>
      by_cases hw0:bw=0
      ·have hw0':(bw == 0)=true:=by simp [hw0]
       clear hw0
       go_wp2_with (refine Yae rfl 53 _ _ rfl _ 0 rfl rfl z12 (by exact Nat.le_refl _) (by exact info_kb6) (by simp [Value.oneCell']) ?_;intro Wb pb gb;rw [Yau _ _ (by rfl)] at pb;have hgb:w8.grownBy Wb none:=Yaj (Yaa hgr gz) gb (fun i hi=>.inl (by injection hi with hi;have:=hgr.size;omega));obtain ⟨t0,t1,t2,t3,t4,t5⟩:=Ya5 pb;have r0:Wb.cell? ⟨w.heap.size,0,none⟩=some (.int .i64 q.c):=Yas (Yan HB8.out hgb) rfl)
       go_roundw
       case rel=>exact ⟨i+1,by omega,by go_num,hgb⟩
       case measure=>simp [intOf];omega
      ·have hw0':(bw == 0)=false:=by simp [hw0]
       by_cases hwk:bw=kw
       ·have hwk':(bw == kw)=true:=by simp [hwk]
        clear hwk
        go_wp2_with (refine Yae rfl 53 _ _ rfl _ 0 rfl rfl z12 (by exact Nat.le_refl _) (by exact info_kb6) (by simp [Value.oneCell']) ?_;intro Wb pb gb;rw [Yau _ _ (by rfl)] at pb;have hgb:w8.grownBy Wb none:=Yaj (Yaa hgr gz) gb (fun i hi=>.inl (by injection hi with hi;have:=hgr.size;omega));obtain ⟨t0,t1,t2,t3,t4,t5⟩:=Ya5 pb;have r0:Wb.cell? ⟨w.heap.size,0,none⟩=some (.int .i64 q.c):=Yas (Yan HB8.out hgb) rfl)
        go_roundw
        case rel=>exact ⟨i+1,by omega,by go_num,hgb⟩
        case measure=>simp [intOf];omega
       ·have hwk':(bw == kw)=false:=by simp [hwk]
        have hne:bw≠q.c+1:=by
         have h8:=HOI.out rfl
         have hc:=HQC.out
         have h9:0≤bw∧bw≤8:=h8
         intro e
         apply hwk
         rw [← HKW.out,IntKind.wrap_i64]
         omega
        obtain ⟨kk,hkk,ekk,ewd,hoff⟩:=HTI.out rfl hw0 hne
        rw [HMM2.out] at hkk
        have hoff':∀ j,j<kk→(S'.bs.getD j default).off≠bo:=hoff
        have HKK:=Lib.hid (show kk<m2 from hkk)
        have HEK:=Lib.hid ekk
        have HEW:=Lib.hid ewd
        have HOFF:=Lib.hid hoff'
        clear hw0 hwk hne hkk ekk ewd hoff hoff'
        go_wp2_with (refine Yae rfl 53 _ _ rfl _ 0 rfl rfl z12 (by exact Nat.le_refl _) (by exact info_kb6) (by simp [Value.oneCell']) ?_;intro Wb pb gb;rw [Yau _ _ (by rfl)] at pb;have hgb:w8.grownBy Wb none:=Yaj (Yaa hgr gz) gb (fun i hi=>.inl (by injection hi with hi;have:=hgr.size;omega));obtain ⟨t0,t1,t2,t3,t4,t5⟩:=Ya5 pb;have r0:Wb.cell? ⟨w.heap.size,0,none⟩=some (.int .i64 q.c):=Yas (Yan HB8.out hgb) rfl)
        have HPB:=Lib.hid pb
        have HGB:=Lib.hid hgb
        clear t0 t1 t2 t3 t4 t5 y0 y1 y2 y3 y4 y5 gb z12 gz hgr r0 pb
        go_loopw [13,14] (fun th u wr=>∃ j:Nat,j≤m2∧u=.int .i64 j∧th=.bool (decide (kk<j))∧Wb.grownBy wr none) (fun _ u _=>m2 - (intOf u).toNat)
        case atStart=>exact ⟨0,Nat.zero_le _,rfl,by rw [decide_eq_false (Nat.not_lt_zero _)],Yag _ _⟩
        case round =>
         obtain ⟨j,hj,rfl,rfl,hgj⟩:=hrel
         by_cases h2:j<m2
         ·have h2':(j:Int)<(m2:Int):=by omega
          have hjl:j<S'.bs.length:=by rw [HMM2.out];exact h2
          obtain ⟨g3,pa3,pc3,eg3,-,hat3⟩:=HBA.out.at_ hjl
          injection eg3 with eg3
          injection eg3 with eg3 _ _
          subst eg3
          have hg8j:=Yaa HGB.out hgj
          rcases Nat.lt_trichotomy j kk with hjk|hjk|hjk
          ·have hof:=HOFF.out j hjk
           obtain ⟨b3,eb3⟩:∃ b3,S'.bs.getD j default=b3:=⟨_,rfl⟩
           rw [eb3] at hof
           simp only [eb3] at hat3
           obtain ⟨co,cs3,cu,cw,cn⟩:=b3
           obtain ⟨⟨x0,x1,x2,x3,x4,x5⟩,-⟩:=hat3 wr hg8j
           have hne:((co:Int) == (bo:Int))=false:=by
            have:co≠bo:=hof
            simp;omega
           obtain ⟨ln,eln⟩:∃ ln,(wdL S' j).length=ln:=⟨_,rfl⟩
           rw [eln] at x5
           have HJ:=Lib.hid hjk
           rw [decide_eq_false (show ¬ kk<j by omega)]
           clear hof hat3 eb3 hjk eln hjl
           have pc5:=Yab wr (.cells #[.int .u64 (co:Nat),.int .u64 (cs3:Nat),.bool cu,.int .i64 cw,.int .u64 (cn:Nat),.slice pa3 ln pc3] 53)
           have gc5:=World.grownBy_alloc wr (.cells #[.int .u64 (co:Nat),.int .u64 (cs3:Nat),.bool cu,.int .i64 cw,.int .u64 (cn:Nat),.slice pa3 ln pc3] 53) none
           obtain ⟨Wc,hWc⟩:∃ Z,wr.alloc (.cells #[.int .u64 (co:Nat),.int .u64 (cs3:Nat),.bool cu,.int .i64 cw,.int .u64 (cn:Nat),.slice pa3 ln pc3] 53)=Z:=⟨_,rfl⟩
           rw [hWc] at pc5 gc5
           have hgc:=Yaa hgj gc5
           obtain ⟨v0,v1,v2,v3,v4,v5⟩:=Ya5 pc5
           obtain ⟨t0,t1,t2,t3,t4,t5⟩:=Ya5 (Yan HPB.out hgc)
           clear pc5 gc5
           go_wp2
           go_roundw
           case rel=>exact ⟨j+1,by omega,by go_num,by rw [decide_eq_false (by have:=HJ.out;omega)],hgc⟩
           case measure=>simp [intOf];omega
          ·subst hjk
           have hat4:=hat3
           simp only [HEK.out,HEW.out,edn] at hat4
           obtain ⟨⟨x0,x1,x2,x3,x4,x5⟩,-⟩:=hat4 wr hg8j
           have hnm:∀ V,w8.grownBy V none→Calls Tryz.prog 16 #[.slice pa3 dn pc3,.slice pa dn pc] V fun e w'=>e=.returned (.bool true)∧V.grownBy w' none:=fun V hV=>nums14 (hat4 V hV).2 (HAT.out V hV).2 hwl
           have HNM:=Lib.hid hnm
           have hb0:((bo:Int) == (bo:Int))=true:=by simp
           have hb1:((bs:Int) == (bs:Int))=true:=by simp
           have hb3:(bw == bw)=true:=by simp
           have hb4:((bn:Int) == (bn:Int))=true:=by simp
           rw [decide_eq_false (Nat.lt_irrefl _)]
           clear hat3 hat4 hnm hjl
           have pc5:=Yab wr (.cells #[.int .u64 (bo:Nat),.int .u64 (bs:Nat),.bool true,.int .i64 bw,.int .u64 (bn:Nat),.slice pa3 dn pc3] 53)
           have gc5:=World.grownBy_alloc wr (.cells #[.int .u64 (bo:Nat),.int .u64 (bs:Nat),.bool true,.int .i64 bw,.int .u64 (bn:Nat),.slice pa3 dn pc3] 53) none
           obtain ⟨Wc,hWc⟩:∃ Z,wr.alloc (.cells #[.int .u64 (bo:Nat),.int .u64 (bs:Nat),.bool true,.int .i64 bw,.int .u64 (bn:Nat),.slice pa3 dn pc3] 53)=Z:=⟨_,rfl⟩
           rw [hWc] at pc5 gc5
           have hgc:=Yaa hgj gc5
           obtain ⟨v0,v1,v2,v3,v4,v5⟩:=Ya5 pc5
           obtain ⟨t0,t1,t2,t3,t4,t5⟩:=Ya5 (Yan HPB.out hgc)
           have hN:=HNM.out _ (Yaa HGB.out hgc)
           clear pc5 gc5
           go_wp2_with (go_at_call 16;go_must ((with_reducible refine hN.mono ?_);rintro en w9 ⟨rfl,hg9⟩))
           go_roundw
           case rel=>exact ⟨j+1,by omega,by go_num,by rw [decide_eq_true (Nat.lt_succ_self _)],Yaa hgc hg9⟩
           case measure=>simp [intOf];omega
          ·obtain ⟨b3,eb3⟩:∃ b3,S'.bs.getD j default=b3:=⟨_,rfl⟩
           simp only [eb3] at hat3
           obtain ⟨co,cs3,cu,cw,cn⟩:=b3
           obtain ⟨⟨x0,x1,x2,x3,x4,x5⟩,-⟩:=hat3 wr hg8j
           obtain ⟨ln,eln⟩:∃ ln,(wdL S' j).length=ln:=⟨_,rfl⟩
           rw [eln] at x5
           have HJ:=Lib.hid hjk
           rw [decide_eq_true hjk]
           clear hat3 eb3 hjk eln hjl
           have pc5:=Yab wr (.cells #[.int .u64 (co:Nat),.int .u64 (cs3:Nat),.bool cu,.int .i64 cw,.int .u64 (cn:Nat),.slice pa3 ln pc3] 53)
           have gc5:=World.grownBy_alloc wr (.cells #[.int .u64 (co:Nat),.int .u64 (cs3:Nat),.bool cu,.int .i64 cw,.int .u64 (cn:Nat),.slice pa3 ln pc3] 53) none
           obtain ⟨Wc,hWc⟩:∃ Z,wr.alloc (.cells #[.int .u64 (co:Nat),.int .u64 (cs3:Nat),.bool cu,.int .i64 cw,.int .u64 (cn:Nat),.slice pa3 ln pc3] 53)=Z:=⟨_,rfl⟩
           rw [hWc] at pc5 gc5
           have hgc:=Yaa hgj gc5
           obtain ⟨v0,v1,v2,v3,v4,v5⟩:=Ya5 pc5
           obtain ⟨t0,t1,t2,t3,t4,t5⟩:=Ya5 (Yan HPB.out hgc)
           clear pc5 gc5
           go_wp2
           go_roundw
           case rel=>exact ⟨j+1,by omega,by go_num,by rw [decide_eq_true (by have:=HJ.out;omega)],hgc⟩
           case measure=>simp [intOf];omega
         ·obtain rfl:j=m2:=by omega
          have h2':¬ (j:Int)<(j:Int):=by omega
          rw [decide_eq_true HKK.out]
          clear h2 hj
          go_wp2
          go_roundw
          case rel=>exact ⟨i+1,by omega,by go_num,Yaa HGB.out hgj⟩
          case measure=>simp [intOf];omega
    ·have h1':¬ (i:Int)<(m:Int):=by omega
     clear h1 hi
     go_wp2
     go_ret
     exact ⟨rfl,Yaa HG8.out hgr⟩
 ·by_cases h60:60<q.x.name.size
  ·have h60':(60:Int)<(q.x.name.size:Int):=by omega
   go_enter Tryz.func5,Tryz.ntmps5
   go_wp2_with (first
    | (go_at_call 9;go_must ((with_reducible refine (Yc3 _).mono ?_);rintro en w1 ⟨rfl,hg1'⟩;have hg1:=Yaa HG0.out hg1';have hc1:=few14 (c:=c) (hp.later hg1) rfl hn;rw [hf] at hc1;have b1:=Yan hb3 hg1';have r8:w1.cell? ⟨w.heap.size,8,none⟩=some (.string q.x.name):=Yas b1 rfl))
    | (go_at_call 10;go_must ((with_reducible refine hc1.mono ?_);rintro en w2 ⟨rfl,hw2⟩;subst w2)))
   go_ret
   exact ⟨rfl,hg1⟩
  ·have h60':¬ (60:Int)<(q.x.name.size:Int):=by omega
   go_enter Tryz.func5,Tryz.ntmps5
   go_wp2_with (first
    | (go_at_call 9;go_must ((with_reducible refine (Yc3 _).mono ?_);rintro en w1 ⟨rfl,hg1'⟩;have hg1:=Yaa HG0.out hg1';have hc1:=few14 (c:=c) (hp.later hg1) rfl hn;rw [hf] at hc1;have b1:=Yan hb3 hg1';have r8:w1.cell? ⟨w.heap.size,8,none⟩=some (.string q.x.name):=Yas b1 rfl))
    | (go_at_call 10;go_must ((with_reducible refine hc1.mono ?_);rintro en w2 ⟨rfl,hw2⟩;subst w2)))
   go_ret
   exact ⟨rfl,hg1⟩
theorem walk {w:World} {la:Option Addr} {c:Nat} {l:List Yc4} (hn:l.length≤maxLen) (ho:∀ q∈l,Yda q) (hp:Yco w la l) (q:Yc4) (hq:Yda q) :
  Calls Tryz.prog 5 #[.slice la l.length c,.agg q.C] w fun e w'=>e=.returned (.bool true)∧Below w.heap.size w w' :=
 (core hn ho hp hq).mono fun e w' ⟨h1,h2⟩=>⟨h1,⟨h2.os,h2.tape,h2.output,h2.size,fun k hk=>h2.block k hk (by simp)⟩⟩
theorem laidOut:laidOutB Tryz.prog=true:=by kernel_rfl
/-! ### The row's step: the guide's frame -/
theorem own:ownKnob Tryz.prog.godebug=none:=by kernel_rfl
set_option maxRecDepth 100000 in
theorem lifted (os:Os) (started:os.Started) (H:Type) (enc:TypeId × Value→H) :
  ReturnsInHanded {} Tryz.checked os 5 .any (Rows.modelApartSpec.pre6 enc Tryz.prog Tryz.f5 Rows.modelApartRow.domain false) (Rows.modelApartSpec.post enc Tryz.prog Tryz.f5 false true false false):=by
 refine returnsInHanded_of_change (C:=Tryz.checked) own started (by kernel_rfl) Tryz.func5
  (ChangeSpec.witness6 (enc:=enc) (C:=Tryz.checked) false ⟨#[],#[.slice none 0 0,.agg #[.int .i64 0,.int .i64 0,.int .u64 0,.int .u64 0,.int .u64 0,.int .u64 0,.int .u64 0,.int .i64 0,.string ByteArray.empty,.int .u8 0,.bool false]],[]⟩ 8 (by kernel_rfl) (by kernel_rfl) (by kernel_rfl) (by kernel_rfl)) ?_
 intro W base args ds gs before hval0 hW hcnd _
 have hval:∀ (j:Nat) t v,Tryz.f5.params[j]?=some t→args[j]?=some v→Value.okWide Tryz.prog W .any base t v:=hval0
 have hW':=hW
 obtain ⟨p,q,hA0,hV,rfl,hfz,hnd⟩:=hW
 have hA:DataW.TrodAll enc Tryz.prog W 0 (fun _=>true) true Tryz.f5.params.toList args.toList ds p:=hA0
 rw [Tryz.params5] at hA hval
 obtain ⟨v0,vs0,d0,ds0,p0,q0,hargs,rfl,rfl,h0,r0⟩:=trodAll_cons hA
 obtain ⟨v1,vs1,d1,ds1,p1,q1,rfl,rfl,rfl,h1,r1⟩:=trodAll_cons r0
 obtain ⟨rfl,rfl,rfl⟩:=trodAll_nil r1
 obtain rfl:args=#[v0,v1]:=by cases args;simp_all
 obtain ⟨rfl,rfl⟩:=trodVars_none hV
 have lt0:∀ x∈p0,x.block<W.heap.size:=by obtain ⟨m,hm⟩:=h0;exact DataW.trod_lt m _ _ _ hm
 obtain ⟨la0,c0,l0,rfl,hc0,hn0,ho0,hp0⟩:=Yd4 (hval 0 22 v0 rfl rfl) h0
 have lt1:∀ x∈p1,x.block<W.heap.size:=by obtain ⟨m,hm⟩:=h1;exact DataW.trod_lt m _ _ _ hm
 obtain ⟨q1,rfl,hq1⟩:=open_call (hval 1 43 v1 rfl rfl) h1
 clear hA0 hval0
 refine (walk hn0 ho0 hp0 q1 hq1).mono fun e W' ⟨he,bel⟩=>?_
 subst he
 exact ⟨_,rfl,_,_,_,[],_,[],hW',trodAll_mk1 (shut_bool Tryz.underlying4 _),(trodAll_cons_mk (Below.trod laidOut (by kernel_rfl) (of_decide_eq_true (by kernel_rfl)) h0 bel lt0) (trodAll_cons_mk (Below.trod laidOut (by kernel_rfl) (of_decide_eq_true (by kernel_rfl)) h1 bel lt1) trodAll_mk0)),rfl,bel.frame _,fun h=>by cases h⟩

theorem over:Rows.modelApartRow.holds Tryz.pinned (OpenSpec.ofChange Rows.modelApartSpec) :=
 OpenClaim.holds_of_wide 5 Tryz.f5 rfl rfl rfl rfl rfl rfl rfl ⟨rfl,rfl,rfl,rfl,rfl⟩ rfl rfl rfl rfl rfl (by kernel_rfl) Tryz.func5 (by kernel_rfl)
  (of_decide_eq_true (by kernel_rfl)) (by unfold Func.isWrapper;first|(rw [if_pos (by decide +kernel)];kernel_rfl)|(rw [if_neg (by decide +kernel)];exact ⟨rfl,rfl⟩))
  (fun os started H enc _=>lifted os started H enc)

theorem proved:Rows.ModelApartSaid :=
 over
#print axioms proved


end Go.Proofs.YtfhiljglfhekdaaGreat.modelApart
