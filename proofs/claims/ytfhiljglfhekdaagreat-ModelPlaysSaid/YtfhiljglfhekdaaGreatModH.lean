/-
  Texts of one layer, one behind the other: memory, contracts of the functions, and what follows of them.
  Conditions: as each theorem says.
-/
import Derived.Test.YtfhiljglfhekdaaGreatLMob
set_option linter.unusedVariables false
set_option linter.unusedSimpArgs false
set_option maxRecDepth 100000
namespace Go.Proofs.YtfhiljglfhekdaaGreat
open Go.RowKit
section
def ownA (bs:List Blk) (i:Nat) (who:Nat):List Blk:=bs.take i++⟨gO bs i,gS bs i,gU bs i,who,gN bs i⟩::bs.drop (i+1)
def ownL (bs:List Blk) (L:Nat→List Nat) (i who:Nat):Nat→List Nat:=Ydl (lstB L (bs.getD i default)) who (gO bs i)
def mOwn (S:MS) (i who:Nat):MS:={ S with bs:=ownA S.bs i who,L:=ownL S.bs S.L i who }
section
variable {w w' W:World} {F:Nat→Prop} {base all K:Nat} {v:Value} {S:MS}
set_option maxHeartbeats 32000000 in
theorem rowner14 (h:StIs w F base v all S) (hlen:S.bs.length≤1000) (hll:∀ k,k<8→(S.L k).length≤1000) (hFb:∀ g,F g→g<w.heap.size) (hbw:base≤w.heap.size) {i:Nat} (hi:i<S.bs.length) {was:Nat} (hwas:gW S.bs i=(was:Nat)) (hw8:was≤8) (who:Nat) (hwho:who≤8) :
  Calls Tryz.prog 85 #[v,.int .i64 i,.int .i64 who] w fun e w'=>∃ v',e=.returned v'∧StIs w' F base v' all (mOwn S i who)∧w.grownBy w' none:=by
 obtain ⟨la,n,c,va,ln,vc,da,dn,dc,na,nn,nc,lD,rfl,hb,hl,hd,hpl,hn,hf⟩:=h
 have hc2:(sC all S.E la n c va ln vc da dn dc na nn nc S.lv)[2]?=some (.slice la n c):=rfl
 obtain ⟨b1,b2,hg⟩:=state_boxes (w:=w) (sC all S.E la n c va ln vc da dn dc na nn nc S.lv)
 obtain ⟨W0,hW0⟩:∃ W0,((w.alloc (.cells (sC all S.E la n c va ln vc da dn dc na nn nc S.lv) 36)).alloc (.cells sZ 36))=W0:=⟨_,rfl⟩
 have hsW:W0.heap.size=w.heap.size+1+1:=by rw [← hW0];simp
 rw [hW0] at b1 b2 hg
 obtain ⟨la',c',hlv,hat⟩:=hb.at_
 obtain ⟨N,hN⟩:∃ N,S.bs.length=N:=⟨_,rfl⟩
 rw [hN] at hlv hi hlen
 injection hlv with e1 e2 e3
 subst e1 e2 e3
 have HBL:=Lib.hid (fun (V:World) (hg:w.grownBy V none)=>hat.later hg)
 have h0W:=World.grownBy_alloc W0 (.cells #[] 81) none
 have ho0:OwnB (W0.alloc (.cells #[] 81)) W0.heap.size 81 (.slice (some ⟨W0.heap.size,0,none⟩) 0 0) []:=ownB_none rfl (Nat.le_refl _)
 rw [hsW] at ho0
 have hGA:=Yaa hg h0W
 have c2':(W0.alloc (.cells #[] 81)).cell? ⟨w.heap.size,2,none⟩=some (.slice la n c):=Yas ((h0W.block _ (lt_of_block b1) (by simp)).trans b1) hc2
 have i2:(i:Int)<(n:Int):=by omega
 have HN:=Lib.hid hN
 obtain ⟨q,hq⟩:∃ q,S.bs.getD i default=q:=⟨_,rfl⟩
 have hqo:q.o=(was:Nat):=by rw [← hq];exact hwas
 have HQ:=Lib.hid hq
 have hsp:S.bs=S.bs.take i++q::S.bs.drop (i+1):=by
  have:=bs_amid (bs:=S.bs) (i:=i) (by rw [hN];exact hi)
  rw [hq] at this;exact this
 have hti:(S.bs.take i).length=i:=by rw [List.length_take,hN];omega
 have HSP:=Lib.hid hsp
 have HTI:=Lib.hid hti
 obtain ⟨q0,q1,q2,q3,q4⟩:=q
 simp only at hqo
 subst hqo
 have hin:i<n:=hi
 have R0:Rows4 W0 F base la n c va ln vc S.bs S.L da dn dc lD na nn nc S.nm:=⟨hb.later hg,fun k hk=>(hl k hk).later hg,hd.later hg,hn.later hg,hf⟩
 have HFB:=Lib.hid hFb
 have HR0:=Lib.hid R0.all
 clear hat hq hN hwas hi hsp hti hc2
 unfold sZ at hW0
 by_cases hw0:was=0
 ·have hwi:¬ (0:Int)<(was:Int):=by omega
  by_cases hh0:who=0
  ·have hhi:¬ (0:Int)<(who:Int):=by omega
   have HWAS:=Lib.hid hw0
   have HWHO:=Lib.hid hh0
   clear hw0 hh0
   go_enter Tryz.func85,Tryz.ntmps85
   go_wp2_with (first
    | (at_builtin;go_must (refine Yao ho0 (HBL.out _ hGA) rfl HN.out (show 0+n≤1000000 by omega) (by rw [World.size_alloc,hsW];omega) rfl _ _ rfl rfl rfl ?_);intro v5 w5 ho5 hg5 hlo5;go_loud (rw [List.nil_append] at ho5;have hg5s:(W0.alloc (.cells #[] 81)).grownBy w5 (some (w.heap.size+1+1)):=hg5;have hg5':W0.grownBy w5 none:=Yap (Yaa (Yam h0W _) hg5s) (Nat.le_of_eq hsW);obtain ⟨g,c5,hv5,hbg,hgw,hfz,hat⟩:=ho5.spot (by rw [HN.out];omega);rw [HN.out] at hv5;subst hv5;obtain ⟨z0,z1,z2,z3,z4⟩:=hat i (by rw [HN.out];exact hin);unfold gO at z0;unfold gS at z1;unfold gU at z2;unfold gW at z3;unfold gN at z4;rw [HQ.out] at z0 z1 z2 z3 z4;simp only at z0 z1 z2 z3 z4;have b5:=Yab w5 (.cells #[.int .u64 0,.int .u64 0,.bool false,.int .i64 0,.int .u64 0] 81);have g5:=World.grownBy_alloc w5 (.cells #[.int .u64 0,.int .u64 0,.bool false,.int .i64 0,.int .u64 0] 81) none;clear hat hfz c2';have G5:=Yaa hg5' g5;have hgn:w.heap.size+1<g:=(by have:=hbg;omega);have OB5:=ho5.later g5;rw [HSP.out] at OB5))
    | (refine Yae (ps:=bkC ⟨q0,q1,q2,was,q4⟩) rfl 81 _ _ rfl _ 0 rfl rfl b5 (by exact Nat.le_refl 5) (by exact Yec) bkC_one ?_;intro w6 p6 g6;rw [Yau #[.int .u64 0,.int .u64 0,.bool false,.int .i64 0,.int .u64 0] (bkC ⟨q0,q1,q2,was,q4⟩) rfl] at p6;have hs5:=hg5'.size;have hbq:w.heap.size+1<w5.heap.size∧g<w5.heap.size:=⟨by omega,hgw⟩;have G6:W0.grownBy w6 none:=Yaj G5 g6 (fun i hi=>.inl (by injection hi with hi;omega));have SB6:=(G6.block _ (lt_of_block b1) (by simp)).trans b1;have RB6:=(G6.block _ (lt_of_block b2) (by simp)).trans b2;have R6:=HR0.out.later G6;have OB6:=World.ownsRow.kept OB5 g6 (.inr (fun e=>by injection e with e;have e:g=_:=e;omega));have c63:=Yas p6 (show (bkC ⟨q0,q1,q2,was,q4⟩)[3]?=some (.int .i64 (was:Nat)) from rfl))
    | (refine Ybd rfl 3 _ _ rfl _ 3 rfl rfl p6 (by show 3<5;decide) info_int1 rfl ?_;intro w8 p8 g8;have p8:w8.heap[w5.heap.size]?=some (.cells (bkC ⟨q0,q1,q2,who,q4⟩) 81 (0,0)):=p8;have SB8:=(g8.block _ (lt_of_block SB6) (by simp;omega)).trans SB6;have RB8:=(g8.block _ (lt_of_block RB6) (by simp;omega)).trans RB6;have OB8:=World.ownsRow.kept OB6 g8 (.inr (fun e=>by injection e with e;have e:g=_:=e;omega));have R8:=R6.new g8 p6 (by omega))
    | (refine Yad rfl 81 _ rfl _ 0 rfl p8 (bkC ⟨q0,q1,q2,who,q4⟩) (fun j v hj=>by simpa using hj) _ Tryz.underlying81 rfl Yec ?_)
    | (refine Ydb (q:=⟨q0,q1,q2,who,q4⟩) rfl _ _ rfl rfl rfl OB8 (by rw [← HSP.out];exact HN.out) HTI.out ?_;intro w9 OB9 g9;have SB9:=(g9.block _ (lt_of_block SB8) (by simp;omega)).trans SB8;have RB9:=(g9.block _ (lt_of_block RB8) (by simp;omega)).trans RB8;obtain ⟨_,cur8,hcur8⟩:=Yct OB8 rfl;have R9:=R8.new g9 hcur8 (by omega))
    | (refine Ybd (u:=.slice (some ⟨g,0,none⟩) n c5) rfl 27 _ _ rfl _ 2 rfl rfl SB9 (by show 2<21;decide) info_bsl (by rfl) ?_;intro w10 SB10 g10;rw [sC_blks] at SB10;have RB10:=(g10.block _ (lt_of_block RB9) (by simp)).trans RB9;have R10:=R9.past g10 SB9 Ybt;have OB10:=Ya8 OB9 g10 SB9 Ybt.1)
    | (refine Yad rfl 36 _ rfl _ 0 rfl SB10 (sC all S.E (some ⟨g,0,none⟩) n c5 va ln vc da dn dc na nn nc S.lv) (fun j v hj=>by simpa using hj) _ Tryz.underlying36 rfl Yai ?_)
    | (refine Yae (ps:=sC all S.E (some ⟨g,0,none⟩) n c5 va ln vc da dn dc na nn nc S.lv) rfl 36 _ _ rfl _ 0 rfl rfl RB10 (by exact Nat.le_refl 21) (by exact Yai) sC_one ?_;intro w11 RB11 g11;rw [ovr_st] at RB11;have R11:=R10.past g11 RB10 Ybt;have OB11:=Ya8 OB10 g11 RB10 Ybt.1))
   have GK:=G6
   refine bodyPost_ret (results_cell_row rfl _ _ _ _ _ _ _ rfl RB11 Tryz.underlying36 rfl Yai) rfl ?_
   have hA:ownA S.bs i who=S.bs.take i++⟨q0,q1,q2,who,q4⟩::S.bs.drop (i+1):=by unfold ownA gO gS gU gN;rw [HQ.out]
   have hLL:ownL S.bs S.L i who=S.L:=by
    unfold ownL Ydl lstB gO
    rw [HQ.out]
    simp only [HWAS.out,HWHO.out]
    rfl
   have GF:w.grownBy w11 none:=Yaj (Yaj (Yaj (Yaj (Yaa hg GK) g8 (fun i hi=>.inl (by injection hi with hi;omega))) g9 (fun i hi=>.inl (by injection hi with hi;omega))) g10 (fun i hi=>.inl (by injection hi with hi;omega))) g11 (fun i hi=>.inl (by injection hi with hi;omega))
   exact ⟨_,rfl,⟨some ⟨g,0,none⟩,n,c5,va,ln,vc,da,dn,dc,na,nn,nc,lD,rfl,by show OwnB w11 base _ _ (ownA S.bs i who);rw [hA];exact OB11.mono (by omega),fun k hk=>by show KF w11 F base _ (ownL S.bs S.L i who k);rw [hLL];exact R11.rows.l k hk,R11.rows.d,hpl,R11.rows.n,R11.rows.f⟩,GF⟩
  ·obtain ⟨j,hj⟩:∃ j,who=j+1:=⟨who - 1,by omega⟩
   have hj8:j<8:=by omega
   have hhi:(0:Int)<(who:Int):=by omega
   have hj1:(0:Int)≤(j:Int):=by omega
   have hj2:(j:Int)<8:=by omega
   have jt:(j:Int).toNat=j:=by simp
   have ej:IntKind.i64.wrap ((who:Int) - 1)=(j:Int):=by rw [IntKind.wrap_i64];omega
   have HJ:=Lib.hid hj
   have HJ8:=Lib.hid hj8
   have HWAS:=Lib.hid hw0
   have HLL:=Lib.hid hll
   clear hw0 hh0 hj
   go_enter Tryz.func85,Tryz.ntmps85
   go_wp2_with (first
    | (at_builtin;go_must (refine Yao ho0 (HBL.out _ hGA) rfl HN.out (show 0+n≤1000000 by omega) (by rw [World.size_alloc,hsW];omega) rfl _ _ rfl rfl rfl ?_);intro v5 w5 ho5 hg5 hlo5;go_loud (rw [List.nil_append] at ho5;have hg5s:(W0.alloc (.cells #[] 81)).grownBy w5 (some (w.heap.size+1+1)):=hg5;have hg5':W0.grownBy w5 none:=Yap (Yaa (Yam h0W _) hg5s) (Nat.le_of_eq hsW);obtain ⟨g,c5,hv5,hbg,hgw,hfz,hat⟩:=ho5.spot (by rw [HN.out];omega);rw [HN.out] at hv5;subst hv5;obtain ⟨z0,z1,z2,z3,z4⟩:=hat i (by rw [HN.out];exact hin);unfold gO at z0;unfold gS at z1;unfold gU at z2;unfold gW at z3;unfold gN at z4;rw [HQ.out] at z0 z1 z2 z3 z4;simp only at z0 z1 z2 z3 z4;have b5:=Yab w5 (.cells #[.int .u64 0,.int .u64 0,.bool false,.int .i64 0,.int .u64 0] 81);have g5:=World.grownBy_alloc w5 (.cells #[.int .u64 0,.int .u64 0,.bool false,.int .i64 0,.int .u64 0] 81) none;clear hat hfz c2';have G5:=Yaa hg5' g5;have hgn:w.heap.size+1<g:=(by have:=hbg;omega);have OB5:=ho5.later g5;rw [HSP.out] at OB5))
    | (refine Yae (ps:=bkC ⟨q0,q1,q2,was,q4⟩) rfl 81 _ _ rfl _ 0 rfl rfl b5 (by exact Nat.le_refl 5) (by exact Yec) bkC_one ?_;intro w6 p6 g6;rw [Yau #[.int .u64 0,.int .u64 0,.bool false,.int .i64 0,.int .u64 0] (bkC ⟨q0,q1,q2,was,q4⟩) rfl] at p6;have hs5:=hg5'.size;have hbq:w.heap.size+1<w5.heap.size∧g<w5.heap.size:=⟨by omega,hgw⟩;have G6:W0.grownBy w6 none:=Yaj G5 g6 (fun i hi=>.inl (by injection hi with hi;omega));have SB6:=(G6.block _ (lt_of_block b1) (by simp)).trans b1;have RB6:=(G6.block _ (lt_of_block b2) (by simp)).trans b2;have R6:=HR0.out.later G6;have OB6:=World.ownsRow.kept OB5 g6 (.inr (fun e=>by injection e with e;have e:g=_:=e;omega));have c63:=Yas p6 (show (bkC ⟨q0,q1,q2,was,q4⟩)[3]?=some (.int .i64 (was:Nat)) from rfl)))
   have HR6:=Lib.hid R6
   obtain ⟨hwk,hwn⟩:Yb1 w6 (va j) (S.L j)∧(S.L j).length=ln j:=by
    obtain ⟨lk,ck,ek,hk⟩:=(R6.rows.l j hj8).1.lie
    injection ek with q1 qn _
    rw [q1]
    exact ⟨hk,qn.symm⟩
   have hlk:1+ln j≤1000000:=by
    have h1:=HLL.out j hj8
    omega
   have HWN:=Lib.hid hwn
   have hcellk:∀ V:World,w6.grownBy V none→V.cell? ⟨w.heap.size,3+j,none⟩=some (.slice (va j) (ln j) (vc j))∧V.cell? ⟨w5.heap.size,0,none⟩=some (.int .u64 q0)∧V.frozen? ⟨w.heap.size,3+j,none⟩=false:=fun V hg =>
    have h1:=(hg.block _ (lt_of_block SB6) (by simp)).trans SB6
    have h2:=(hg.block _ (lt_of_block p6) (by simp)).trans p6
    ⟨Yas h1 (Yer hj8),Yas h2 rfl,Ydw h1 _⟩
   have HG:w6.grownBy w6.drew none:=Yah (Yag _ _)
   have HGb:=World.grownBy_alloc w6 (.cells #[.int .u64 (q0:Nat)] 26) none
   have HGa:=Yah HGb
   obtain ⟨l0,l1,l2⟩:=hcellk _ HG
   obtain ⟨m0,m1,m2⟩:=hcellk _ HGb
   clear hwn
   go_region_law (first|(refine Yep ((ownW_lit1 w6 q0).later (Yah (Yag _ _))) (hwk.later HGa) HWN.out hlk (Nat.le_of_lt (by simp)) rfl _ _ rfl rfl rfl ?_;intro v7 w7 ho7 hg7;have hg7s:(w6.alloc (.cells #[.int .u64 (q0:Nat)] 26)).drew.grownBy w7 (some w6.heap.size):=hg7;obtain ⟨a7,n7,c7,rfl⟩:=ownW_lie ho7;have HGn:=Yap (Yaa (Yam HGa _) hg7s) (Nat.le_refl _);obtain ⟨l0,l1,l2⟩:=hcellk _ HGn))
   all_goals
    have SBw:=(HGn.block _ (lt_of_block SB6) (by simp)).trans SB6
    have RBw:=(HGn.block _ (lt_of_block RB6) (by simp)).trans RB6
    have pw:=(HGn.block _ (lt_of_block p6) (by simp)).trans p6
    have SBx:=Yb7 (k:=3+j) (v:=.slice a7 n7 c7) SBw
    have gx:w7.grownBy (w7.setCell ⟨w.heap.size,3+j,none⟩ (.slice a7 n7 c7)) (some w.heap.size):=Yac _ _ _ _
    obtain ⟨V8,hV8⟩:∃ W8,w7.setCell ⟨w.heap.size,3+j,none⟩ (.slice a7 n7 c7)=W8:=⟨_,rfl⟩
    rw [hV8] at SBx gx ⊢
    rw [sC_list HJ8.out] at SBx
    have GW6:w.grownBy w6 none:=Yaa hg G6
    have hox:KF V8 F base (.slice a7 n7 c7) (q0::S.L j):=⟨OwnW.mono (Ya8 ho7 gx SBw Ybt.2.1) (Nat.le_trans hbw GW6.size),fun g e hk=>by have:=HFB.out g hk;have:=(World.ownsRow.lt ho7 g e).1;have:=GW6.size;omega⟩
    have Rx:=((HR6.out.later HGn).past gx SBw Ybt).list (k:=j) hox
    have OBx:=Ya8 (World.ownsRow.kept OB6 HGn (.inr (fun e=>by cases e))) gx SBw Ybt.1
    have GX:w.grownBy V8 none:=Yaj (Yaa GW6 HGn) gx (fun i hi=>.inl (by injection hi with hi;omega))
    have RBx:=(gx.block _ (lt_of_block RBw) (by simp)).trans RBw
    have px:=(gx.block _ (lt_of_block pw) (by simp;omega)).trans pw
    obtain ⟨va2,hva2⟩:∃ x,oth va j a7=x:=⟨_,rfl⟩
    obtain ⟨ln2,hln2⟩:∃ x,oth ln j n7=x:=⟨_,rfl⟩
    obtain ⟨vc2,hvc2⟩:∃ x,oth vc j c7=x:=⟨_,rfl⟩
    rw [hva2,hln2,hvc2] at SBx Rx
    replace SB6:=SBx
    replace RB6:=RBx
    replace R6:=Rx
    replace OB6:=OBx
    replace p6:=px
    clear l0 l1 l2 m0 m1 m2 HG HGa HGb HGn hg7 hg7s ho7 hox hcellk hwk hV8 hva2 hln2 hvc2 gx SBx SBw RBx RBw Rx OBx px pw jt hj1 hj2 ej GW6
    go_wp2_with (first
     | (refine Ybd rfl 3 _ _ rfl _ 3 rfl rfl p6 (by show 3<5;decide) info_int1 rfl ?_;intro w8 p8 g8;have p8:w8.heap[w5.heap.size]?=some (.cells (bkC ⟨q0,q1,q2,who,q4⟩) 81 (0,0)):=p8;have SB8:=(g8.block _ (lt_of_block SB6) (by simp;omega)).trans SB6;have RB8:=(g8.block _ (lt_of_block RB6) (by simp;omega)).trans RB6;have OB8:=World.ownsRow.kept OB6 g8 (.inr (fun e=>by injection e with e;have e:g=_:=e;omega));have R8:=R6.new g8 p6 (by omega))
     | (refine Yad rfl 81 _ rfl _ 0 rfl p8 (bkC ⟨q0,q1,q2,who,q4⟩) (fun j v hj=>by simpa using hj) _ Tryz.underlying81 rfl Yec ?_)
     | (refine Ydb (q:=⟨q0,q1,q2,who,q4⟩) rfl _ _ rfl rfl rfl OB8 (by rw [← HSP.out];exact HN.out) HTI.out ?_;intro w9 OB9 g9;have SB9:=(g9.block _ (lt_of_block SB8) (by simp;omega)).trans SB8;have RB9:=(g9.block _ (lt_of_block RB8) (by simp;omega)).trans RB8;obtain ⟨_,cur8,hcur8⟩:=Yct OB8 rfl;have R9:=R8.new g9 hcur8 (by omega))
     | (refine Ybd (u:=.slice (some ⟨g,0,none⟩) n c5) rfl 27 _ _ rfl _ 2 rfl rfl SB9 (by show 2<21;decide) info_bsl (by rfl) ?_;intro w10 SB10 g10;rw [sC_blks] at SB10;have RB10:=(g10.block _ (lt_of_block RB9) (by simp)).trans RB9;have R10:=R9.past g10 SB9 Ybt;have OB10:=Ya8 OB9 g10 SB9 Ybt.1)
     | (refine Yad rfl 36 _ rfl _ 0 rfl SB10 (sC all S.E (some ⟨g,0,none⟩) n c5 va2 ln2 vc2 da dn dc na nn nc S.lv) (fun j v hj=>by simpa using hj) _ Tryz.underlying36 rfl Yai ?_)
     | (refine Yae (ps:=sC all S.E (some ⟨g,0,none⟩) n c5 va2 ln2 vc2 da dn dc na nn nc S.lv) rfl 36 _ _ rfl _ 0 rfl rfl RB10 (by exact Nat.le_refl 21) (by exact Yai) sC_one ?_;intro w11 RB11 g11;rw [ovr_st] at RB11;have R11:=R10.past g11 RB10 Ybt;have OB11:=Ya8 OB10 g11 RB10 Ybt.1))
    refine bodyPost_ret (results_cell_row rfl _ _ _ _ _ _ _ rfl RB11 Tryz.underlying36 rfl Yai) rfl ?_
    have hA:ownA S.bs i who=S.bs.take i++⟨q0,q1,q2,who,q4⟩::S.bs.drop (i+1):=by unfold ownA gO gS gU gN;rw [HQ.out]
    have hLk:ownL S.bs S.L i who=setL S.L j (q0::S.L j):=by
     have hj:=HJ.out
     unfold ownL Ydl gO
     rw [HQ.out]
     rw [if_neg (by omega),show who - 1=j by omega]
     rw [show lstB S.L (⟨q0,q1,q2,(was:Nat),q4⟩:Blk)=S.L by unfold lstB;simp only [HWAS.out];rfl]
    have GF:w.grownBy w11 none:=Yaj (Yaj (Yaj (Yaj GX g8 (fun i hi=>.inl (by injection hi with hi;omega))) g9 (fun i hi=>.inl (by injection hi with hi;omega))) g10 (fun i hi=>.inl (by injection hi with hi;omega))) g11 (fun i hi=>.inl (by injection hi with hi;omega))
    exact ⟨_,rfl,⟨some ⟨g,0,none⟩,n,c5,va2,ln2,vc2,da,dn,dc,na,nn,nc,lD,rfl,by show OwnB w11 base _ _ (ownA S.bs i who);rw [hA];exact OB11.mono (by omega),fun x hx=>by show KF w11 F base _ (ownL S.bs S.L i who x);rw [hLk];exact R11.rows.l x hx,R11.rows.d,hpl,R11.rows.n,R11.rows.f⟩,GF⟩
 ·obtain ⟨k,rfl⟩:∃ k,was=k+1:=⟨was - 1,by omega⟩
  have hk8:k<8:=by omega
  have hwi:(0:Int)<((k+1:Nat):Int):=by omega
  have hk1:(0:Int)≤(k:Int):=by omega
  have hk2:(k:Int)<8:=by omega
  have kt:(k:Int).toNat=k:=by simp
  have hkw:IntKind.i64.wrap (k:Int)=(k:Int):=by rw [IntKind.wrap_i64];omega
  by_cases hh0:who=0
  ·have hhi:¬ (0:Int)<(who:Int):=by omega
   have HWHO:=Lib.hid hh0
   clear hw0 hh0
   go_enter Tryz.func85,Tryz.ntmps85
   go_wp2_with (first
    | (at_builtin;go_must (refine Yao ho0 (HBL.out _ hGA) rfl HN.out (show 0+n≤1000000 by omega) (by rw [World.size_alloc,hsW];omega) rfl _ _ rfl rfl rfl ?_);intro v5 w5 ho5 hg5 hlo5;go_loud (rw [List.nil_append] at ho5;have hg5s:(W0.alloc (.cells #[] 81)).grownBy w5 (some (w.heap.size+1+1)):=hg5;have hg5':W0.grownBy w5 none:=Yap (Yaa (Yam h0W _) hg5s) (Nat.le_of_eq hsW);obtain ⟨g,c5,hv5,hbg,hgw,hfz,hat⟩:=ho5.spot (by rw [HN.out];omega);rw [HN.out] at hv5;subst hv5;obtain ⟨z0,z1,z2,z3,z4⟩:=hat i (by rw [HN.out];exact hin);unfold gO at z0;unfold gS at z1;unfold gU at z2;unfold gW at z3;unfold gN at z4;rw [HQ.out] at z0 z1 z2 z3 z4;simp only at z0 z1 z2 z3 z4;have b5:=Yab w5 (.cells #[.int .u64 0,.int .u64 0,.bool false,.int .i64 0,.int .u64 0] 81);have g5:=World.grownBy_alloc w5 (.cells #[.int .u64 0,.int .u64 0,.bool false,.int .i64 0,.int .u64 0] 81) none;clear hat hfz c2';have G5:=Yaa hg5' g5;have hgn:w.heap.size+1<g:=(by have:=hbg;omega);have OB5:=ho5.later g5;rw [HSP.out] at OB5))
    | (refine Yae (ps:=bkC ⟨q0,q1,q2,((k+1:Nat):Int),q4⟩) rfl 81 _ _ rfl _ 0 rfl rfl b5 (by exact Nat.le_refl 5) (by exact Yec) bkC_one ?_;intro w6 p6 g6;rw [Yau #[.int .u64 0,.int .u64 0,.bool false,.int .i64 0,.int .u64 0] (bkC ⟨q0,q1,q2,((k+1:Nat):Int),q4⟩) rfl] at p6;have hs5:=hg5'.size;have hbq:w.heap.size+1<w5.heap.size∧g<w5.heap.size:=⟨by omega,hgw⟩;have G6:W0.grownBy w6 none:=Yaj G5 g6 (fun i hi=>.inl (by injection hi with hi;omega));have SB6:=(G6.block _ (lt_of_block b1) (by simp)).trans b1;have RB6:=(G6.block _ (lt_of_block b2) (by simp)).trans b2;have R6:=HR0.out.later G6;have OB6:=World.ownsRow.kept OB5 g6 (.inr (fun e=>by injection e with e;have e:g=_:=e;omega));have c63:=Yas p6 (show (bkC ⟨q0,q1,q2,((k+1:Nat):Int),q4⟩)[3]?=some (.int .i64 ((k:Int)+1)) from rfl)))
   have HR6:=Lib.hid R6
   have hwk:Yb1 w6 (va k) (S.L k)∧(S.L k).length=ln k:=by
    obtain ⟨lk,ck,ek,hk⟩:=(R6.rows.l k hk8).1.lie
    injection ek with q1 qn _
    rw [q1]
    exact ⟨hk,qn.symm⟩
   obtain ⟨hwk,hwn⟩:=hwk
   have hlk:ln k≤1000000:=by
    have h1:=hll k hk8
    omega
   have HWN:=Lib.hid hwn
   have hcellk:∀ V:World,w6.grownBy V none→V.cell? ⟨w.heap.size,3+k,none⟩=some (.slice (va k) (ln k) (vc k))∧V.cell? ⟨w5.heap.size,0,none⟩=some (.int .u64 q0)∧V.frozen? ⟨w.heap.size,3+k,none⟩=false:=fun V hg =>
    have h1:=(hg.block _ (lt_of_block SB6) (by simp)).trans SB6
    have h2:=(hg.block _ (lt_of_block p6) (by simp)).trans p6
    ⟨Yas h1 (Yer hk8),Yas h2 rfl,Ydw h1 _⟩
   have HG:w6.grownBy w6.drew none:=Yah (Yag _ _)
   obtain ⟨l0,l1,l2⟩:=hcellk _ HG
   clear hwn c63 z0 z1 z2 z3 z4
   go_region_law (first|(go_simp;go_at_call 109;go_must ((with_reducible refine (rwithout14 (hwk.later HG) HWN.out hlk q0).mono ?_);rintro e w7 ⟨v7,rfl,ho7,hg7⟩;have ho7:=ho7.mono HG.size;obtain ⟨a7,n7,c7,rfl⟩:=ownW_lie ho7;replace HG:=Yaa HG hg7;obtain ⟨l0,l1,l2⟩:=hcellk _ HG)))
   all_goals
    have SBw:=(HG.block _ (lt_of_block SB6) (by simp)).trans SB6
    have RBw:=(HG.block _ (lt_of_block RB6) (by simp)).trans RB6
    have pw:=(HG.block _ (lt_of_block p6) (by simp)).trans p6
    have SBx:=Yb7 (k:=3+k) (v:=.slice a7 n7 c7) SBw
    have gx:w7.grownBy (w7.setCell ⟨w.heap.size,3+k,none⟩ (.slice a7 n7 c7)) (some w.heap.size):=Yac _ _ _ _
    obtain ⟨W8,hW8⟩:∃ W8,w7.setCell ⟨w.heap.size,3+k,none⟩ (.slice a7 n7 c7)=W8:=⟨_,rfl⟩
    rw [hW8] at SBx gx ⊢
    rw [sC_list hk8] at SBx
    have hwsz:base≤w6.heap.size:=Nat.le_trans hbw (Yaa hg G6).size
    have hox:KF W8 F base (.slice a7 n7 c7) (((S.L k)).filter fun a=>decide (a≠q0)):=⟨OwnW.mono (Ya8 ho7 gx SBw Ybt.2.1) hwsz,fun g e hk=>by have:=HFB.out g hk;have:=(World.ownsRow.lt ho7 g e).1;have:=(Yaa hg G6).size;omega⟩
    have Rx:=((HR6.out.later HG).past gx SBw Ybt).list (k:=k) hox
    have OBx:=Ya8 (World.ownsRow.kept OB6 HG (.inr (fun e=>by cases e))) gx SBw Ybt.1
    have GX:w.grownBy W8 none:=Yaj (Yaa hg (Yaa G6 HG)) gx (fun i hi=>.inl (by injection hi with hi;omega))
    have RBx:=(gx.block _ (lt_of_block RBw) (by simp)).trans RBw
    have px:=(gx.block _ (lt_of_block pw) (by simp;omega)).trans pw
    have hLk:ownL S.bs S.L i who=setL S.L k ((S.L k).filter fun a=>decide (a≠q0)):=by
     unfold ownL Ydl lstB gO
     rw [HQ.out]
     simp only [HWHO.out]
     rw [if_pos trivial,if_neg (by omega)]
     rw [show (((k+1:Nat):Int)).toNat - 1=k by omega]
    have HLK:=Lib.hid hLk
    obtain ⟨va1,hva⟩:∃ x,oth va k a7=x:=⟨_,rfl⟩
    obtain ⟨ln1,hln⟩:∃ x,oth ln k n7=x:=⟨_,rfl⟩
    obtain ⟨vc1,hvc⟩:∃ x,oth vc k c7=x:=⟨_,rfl⟩
    rw [hva,hln,hvc] at SBx Rx
    replace SB6:=SBx
    replace RB6:=RBx
    replace R6:=Rx
    replace OB6:=OBx
    replace p6:=px
    clear l0 l1 l2 HG hg7 ho7 hox hLk hcellk hwk hW8 hva hln hvc gx SBx SBw RBx RBw Rx OBx px pw kt hk1 hk2 hkw G6 g6
    go_wp2_with (first
     | (refine Ybd rfl 3 _ _ rfl _ 3 rfl rfl p6 (by show 3<5;decide) info_int1 rfl ?_;intro w8 p8 g8;have p8:w8.heap[w5.heap.size]?=some (.cells (bkC ⟨q0,q1,q2,who,q4⟩) 81 (0,0)):=p8;have SB8:=(g8.block _ (lt_of_block SB6) (by simp;omega)).trans SB6;have RB8:=(g8.block _ (lt_of_block RB6) (by simp;omega)).trans RB6;have OB8:=World.ownsRow.kept OB6 g8 (.inr (fun e=>by injection e with e;have e:g=_:=e;omega));have R8:=R6.new g8 p6 (by omega))
     | (refine Yad rfl 81 _ rfl _ 0 rfl p8 (bkC ⟨q0,q1,q2,who,q4⟩) (fun j v hj=>by simpa using hj) _ Tryz.underlying81 rfl Yec ?_)
     | (refine Ydb (q:=⟨q0,q1,q2,who,q4⟩) rfl _ _ rfl rfl rfl OB8 (by rw [← HSP.out];exact HN.out) HTI.out ?_;intro w9 OB9 g9;have SB9:=(g9.block _ (lt_of_block SB8) (by simp;omega)).trans SB8;have RB9:=(g9.block _ (lt_of_block RB8) (by simp;omega)).trans RB8;obtain ⟨_,cur8,hcur8⟩:=Yct OB8 rfl;have R9:=R8.new g9 hcur8 (by omega))
     | (refine Ybd (u:=.slice (some ⟨g,0,none⟩) n c5) rfl 27 _ _ rfl _ 2 rfl rfl SB9 (by show 2<21;decide) info_bsl (by rfl) ?_;intro w10 SB10 g10;rw [sC_blks] at SB10;have RB10:=(g10.block _ (lt_of_block RB9) (by simp)).trans RB9;have R10:=R9.past g10 SB9 Ybt;have OB10:=Ya8 OB9 g10 SB9 Ybt.1)
     | (refine Yad rfl 36 _ rfl _ 0 rfl SB10 (sC all S.E (some ⟨g,0,none⟩) n c5 va1 ln1 vc1 da dn dc na nn nc S.lv) (fun j v hj=>by simpa using hj) _ Tryz.underlying36 rfl Yai ?_)
     | (refine Yae (ps:=sC all S.E (some ⟨g,0,none⟩) n c5 va1 ln1 vc1 da dn dc na nn nc S.lv) rfl 36 _ _ rfl _ 0 rfl rfl RB10 (by exact Nat.le_refl 21) (by exact Yai) sC_one ?_;intro w11 RB11 g11;rw [ovr_st] at RB11;have R11:=R10.past g11 RB10 Ybt;have OB11:=Ya8 OB10 g11 RB10 Ybt.1))
    refine bodyPost_ret (results_cell_row rfl _ _ _ _ _ _ _ rfl RB11 Tryz.underlying36 rfl Yai) rfl ?_
    have hA:ownA S.bs i who=S.bs.take i++⟨q0,q1,q2,who,q4⟩::S.bs.drop (i+1):=by unfold ownA gO gS gU gN;rw [HQ.out]
    have GF:w.grownBy w11 none:=Yaj (Yaj (Yaj (Yaj GX g8 (fun i hi=>.inl (by injection hi with hi;omega))) g9 (fun i hi=>.inl (by injection hi with hi;omega))) g10 (fun i hi=>.inl (by injection hi with hi;omega))) g11 (fun i hi=>.inl (by injection hi with hi;omega))
    exact ⟨_,rfl,⟨some ⟨g,0,none⟩,n,c5,va1,ln1,vc1,da,dn,dc,na,nn,nc,lD,rfl,by show OwnB w11 base _ _ (ownA S.bs i who);rw [hA];exact OB11.mono (by omega),fun j hj=>by show KF w11 F base _ (ownL S.bs S.L i who j);rw [HLK.out];exact R11.rows.l j hj,R11.rows.d,hpl,R11.rows.n,R11.rows.f⟩,GF⟩
  ·obtain ⟨j,hj⟩:∃ j,who=j+1:=⟨who - 1,by omega⟩
   have hj8:j<8:=by omega
   have hhi:(0:Int)<(who:Int):=by omega
   have hj1:(0:Int)≤(j:Int):=by omega
   have hj2:(j:Int)<8:=by omega
   have jt:(j:Int).toNat=j:=by simp
   have ej:IntKind.i64.wrap ((who:Int) - 1)=(j:Int):=by rw [IntKind.wrap_i64];omega
   have HJ:=Lib.hid hj
   have HJ8:=Lib.hid hj8
   clear hw0 hh0 hj
   go_enter Tryz.func85,Tryz.ntmps85
   go_wp2_with (first
    | (at_builtin;go_must (refine Yao ho0 (HBL.out _ hGA) rfl HN.out (show 0+n≤1000000 by omega) (by rw [World.size_alloc,hsW];omega) rfl _ _ rfl rfl rfl ?_);intro v5 w5 ho5 hg5 hlo5;go_loud (rw [List.nil_append] at ho5;have hg5s:(W0.alloc (.cells #[] 81)).grownBy w5 (some (w.heap.size+1+1)):=hg5;have hg5':W0.grownBy w5 none:=Yap (Yaa (Yam h0W _) hg5s) (Nat.le_of_eq hsW);obtain ⟨g,c5,hv5,hbg,hgw,hfz,hat⟩:=ho5.spot (by rw [HN.out];omega);rw [HN.out] at hv5;subst hv5;obtain ⟨z0,z1,z2,z3,z4⟩:=hat i (by rw [HN.out];exact hin);unfold gO at z0;unfold gS at z1;unfold gU at z2;unfold gW at z3;unfold gN at z4;rw [HQ.out] at z0 z1 z2 z3 z4;simp only at z0 z1 z2 z3 z4;have b5:=Yab w5 (.cells #[.int .u64 0,.int .u64 0,.bool false,.int .i64 0,.int .u64 0] 81);have g5:=World.grownBy_alloc w5 (.cells #[.int .u64 0,.int .u64 0,.bool false,.int .i64 0,.int .u64 0] 81) none;clear hat hfz c2';have G5:=Yaa hg5' g5;have hgn:w.heap.size+1<g:=(by have:=hbg;omega);have OB5:=ho5.later g5;rw [HSP.out] at OB5))
    | (refine Yae (ps:=bkC ⟨q0,q1,q2,((k+1:Nat):Int),q4⟩) rfl 81 _ _ rfl _ 0 rfl rfl b5 (by exact Nat.le_refl 5) (by exact Yec) bkC_one ?_;intro w6 p6 g6;rw [Yau #[.int .u64 0,.int .u64 0,.bool false,.int .i64 0,.int .u64 0] (bkC ⟨q0,q1,q2,((k+1:Nat):Int),q4⟩) rfl] at p6;have hs5:=hg5'.size;have hbq:w.heap.size+1<w5.heap.size∧g<w5.heap.size:=⟨by omega,hgw⟩;have G6:W0.grownBy w6 none:=Yaj G5 g6 (fun i hi=>.inl (by injection hi with hi;omega));have SB6:=(G6.block _ (lt_of_block b1) (by simp)).trans b1;have RB6:=(G6.block _ (lt_of_block b2) (by simp)).trans b2;have R6:=HR0.out.later G6;have OB6:=World.ownsRow.kept OB5 g6 (.inr (fun e=>by injection e with e;have e:g=_:=e;omega));have c63:=Yas p6 (show (bkC ⟨q0,q1,q2,((k+1:Nat):Int),q4⟩)[3]?=some (.int .i64 ((k:Int)+1)) from rfl)))
   have HR6:=Lib.hid R6
   have hwk:Yb1 w6 (va k) (S.L k)∧(S.L k).length=ln k:=by
    obtain ⟨lk,ck,ek,hk⟩:=(R6.rows.l k hk8).1.lie
    injection ek with q1 qn _
    rw [q1]
    exact ⟨hk,qn.symm⟩
   obtain ⟨hwk,hwn⟩:=hwk
   have hlk:ln k≤1000000:=by
    have h1:=hll k hk8
    omega
   have HWN:=Lib.hid hwn
   have hcellk:∀ V:World,w6.grownBy V none→V.cell? ⟨w.heap.size,3+k,none⟩=some (.slice (va k) (ln k) (vc k))∧V.cell? ⟨w5.heap.size,0,none⟩=some (.int .u64 q0)∧V.frozen? ⟨w.heap.size,3+k,none⟩=false:=fun V hg =>
    have h1:=(hg.block _ (lt_of_block SB6) (by simp)).trans SB6
    have h2:=(hg.block _ (lt_of_block p6) (by simp)).trans p6
    ⟨Yas h1 (Yer hk8),Yas h2 rfl,Ydw h1 _⟩
   have HG:w6.grownBy w6.drew none:=Yah (Yag _ _)
   obtain ⟨l0,l1,l2⟩:=hcellk _ HG
   clear hwn c63 z0 z1 z2 z3 z4
   go_region_law (first|(go_simp;go_at_call 109;go_must ((with_reducible refine (rwithout14 (hwk.later HG) HWN.out hlk q0).mono ?_);rintro e w7 ⟨v7,rfl,ho7,hg7⟩;have ho7:=ho7.mono HG.size;obtain ⟨a7,n7,c7,rfl⟩:=ownW_lie ho7;replace HG:=Yaa HG hg7;obtain ⟨l0,l1,l2⟩:=hcellk _ HG)))
   all_goals
    have SBw:=(HG.block _ (lt_of_block SB6) (by simp)).trans SB6
    have RBw:=(HG.block _ (lt_of_block RB6) (by simp)).trans RB6
    have pw:=(HG.block _ (lt_of_block p6) (by simp)).trans p6
    have SBx:=Yb7 (k:=3+k) (v:=.slice a7 n7 c7) SBw
    have gx:w7.grownBy (w7.setCell ⟨w.heap.size,3+k,none⟩ (.slice a7 n7 c7)) (some w.heap.size):=Yac _ _ _ _
    obtain ⟨W8,hW8⟩:∃ W8,w7.setCell ⟨w.heap.size,3+k,none⟩ (.slice a7 n7 c7)=W8:=⟨_,rfl⟩
    rw [hW8] at SBx gx ⊢
    rw [sC_list hk8] at SBx
    have hwsz:base≤w6.heap.size:=Nat.le_trans hbw (Yaa hg G6).size
    have hox:KF W8 F base (.slice a7 n7 c7) (((S.L k)).filter fun a=>decide (a≠q0)):=⟨OwnW.mono (Ya8 ho7 gx SBw Ybt.2.1) hwsz,fun g e hk=>by have:=HFB.out g hk;have:=(World.ownsRow.lt ho7 g e).1;have:=(Yaa hg G6).size;omega⟩
    have Rx:=((HR6.out.later HG).past gx SBw Ybt).list (k:=k) hox
    have OBx:=Ya8 (World.ownsRow.kept OB6 HG (.inr (fun e=>by cases e))) gx SBw Ybt.1
    have GX:w.grownBy W8 none:=Yaj (Yaa hg (Yaa G6 HG)) gx (fun i hi=>.inl (by injection hi with hi;omega))
    have RBx:=(gx.block _ (lt_of_block RBw) (by simp)).trans RBw
    have px:=(gx.block _ (lt_of_block pw) (by simp;omega)).trans pw
    obtain ⟨L1,hL1⟩:∃ x,setL S.L k ((S.L k).filter fun a=>decide (a≠q0))=x:=⟨_,rfl⟩
    rw [hL1] at Rx
    have HL1:=Lib.hid hL1
    have HLL:Hid (∀ c,c<8→(L1 c).length≤1000):=Lib.hid (fun c hc=>by rw [← hL1];unfold setL;split;exact Nat.le_trans (List.length_filter_le _ _) (hll k hk8);exact hll c hc)
    obtain ⟨va1,hva⟩:∃ x,oth va k a7=x:=⟨_,rfl⟩
    obtain ⟨ln1,hln⟩:∃ x,oth ln k n7=x:=⟨_,rfl⟩
    obtain ⟨vc1,hvc⟩:∃ x,oth vc k c7=x:=⟨_,rfl⟩
    rw [hva,hln,hvc] at SBx Rx
    replace SB6:=SBx
    replace RB6:=RBx
    replace R6:=Rx
    replace OB6:=OBx
    replace p6:=px
    clear l0 l1 l2 HG hg7 ho7 hox hL1 hcellk hwk hW8 hva hln hvc gx SBx SBw RBx RBw Rx OBx px pw kt hk1 hk2 hkw G6 g6
    go_wp2
    have HR6:=Lib.hid R6
    obtain ⟨hwk,hwn⟩:Yb1 W8 (va1 j) (L1 j)∧(L1 j).length=ln1 j:=by
     obtain ⟨lk,ck,ek,hk⟩:=(R6.rows.l j hj8).1.lie
     injection ek with q1 qn _
     rw [q1]
     exact ⟨hk,qn.symm⟩
    have hlk:1+ln1 j≤1000000:=by
     have h1:=HLL.out j hj8
     omega
    have HWN:=Lib.hid hwn
    have hcellk:∀ V:World,W8.grownBy V none→V.cell? ⟨w.heap.size,3+j,none⟩=some (.slice (va1 j) (ln1 j) (vc1 j))∧V.cell? ⟨w5.heap.size,0,none⟩=some (.int .u64 q0)∧V.frozen? ⟨w.heap.size,3+j,none⟩=false:=fun V hg =>
     have h1:=(hg.block _ (lt_of_block SB6) (by simp)).trans SB6
     have h2:=(hg.block _ (lt_of_block p6) (by simp)).trans p6
     ⟨Yas h1 (Yer hj8),Yas h2 rfl,Ydw h1 _⟩
    have HG:W8.grownBy W8.drew none:=Yah (Yag _ _)
    have HGb:=World.grownBy_alloc W8 (.cells #[.int .u64 (q0:Nat)] 26) none
    have HGa:=Yah HGb
    obtain ⟨l0,l1,l2⟩:=hcellk _ HG
    obtain ⟨m0,m1,m2⟩:=hcellk _ HGb
    clear hwn
    go_region_law (first|(refine Yep ((ownW_lit1 W8 q0).later (Yah (Yag _ _))) (hwk.later HGa) HWN.out hlk (Nat.le_of_lt (by simp)) rfl _ _ rfl rfl rfl ?_;intro v7 w7 ho7 hg7;have hg7s:(W8.alloc (.cells #[.int .u64 (q0:Nat)] 26)).drew.grownBy w7 (some W8.heap.size):=hg7;obtain ⟨a7,n7,c7,rfl⟩:=ownW_lie ho7;have HGn:=Yap (Yaa (Yam HGa _) hg7s) (Nat.le_refl _);obtain ⟨l0,l1,l2⟩:=hcellk _ HGn))
    all_goals
     have SBw:=(HGn.block _ (lt_of_block SB6) (by simp)).trans SB6
     have RBw:=(HGn.block _ (lt_of_block RB6) (by simp)).trans RB6
     have pw:=(HGn.block _ (lt_of_block p6) (by simp)).trans p6
     have SBx:=Yb7 (k:=3+j) (v:=.slice a7 n7 c7) SBw
     have gx:w7.grownBy (w7.setCell ⟨w.heap.size,3+j,none⟩ (.slice a7 n7 c7)) (some w.heap.size):=Yac _ _ _ _
     obtain ⟨V8,hV8⟩:∃ W8,w7.setCell ⟨w.heap.size,3+j,none⟩ (.slice a7 n7 c7)=W8:=⟨_,rfl⟩
     rw [hV8] at SBx gx ⊢
     rw [sC_list HJ8.out] at SBx
     have GW6:w.grownBy W8 none:=GX
     have hox:KF V8 F base (.slice a7 n7 c7) (q0::L1 j):=⟨OwnW.mono (Ya8 ho7 gx SBw Ybt.2.1) (Nat.le_trans hbw GW6.size),fun g e hk=>by have:=HFB.out g hk;have:=(World.ownsRow.lt ho7 g e).1;have:=GW6.size;omega⟩
     have Rx:=((HR6.out.later HGn).past gx SBw Ybt).list (k:=j) hox
     have OBx:=Ya8 (World.ownsRow.kept OB6 HGn (.inr (fun e=>by cases e))) gx SBw Ybt.1
     have GX:w.grownBy V8 none:=Yaj (Yaa GW6 HGn) gx (fun i hi=>.inl (by injection hi with hi;omega))
     have RBx:=(gx.block _ (lt_of_block RBw) (by simp)).trans RBw
     have px:=(gx.block _ (lt_of_block pw) (by simp;omega)).trans pw
     obtain ⟨va2,hva2⟩:∃ x,oth va1 j a7=x:=⟨_,rfl⟩
     obtain ⟨ln2,hln2⟩:∃ x,oth ln1 j n7=x:=⟨_,rfl⟩
     obtain ⟨vc2,hvc2⟩:∃ x,oth vc1 j c7=x:=⟨_,rfl⟩
     rw [hva2,hln2,hvc2] at SBx Rx
     replace SB6:=SBx
     replace RB6:=RBx
     replace R6:=Rx
     replace OB6:=OBx
     replace p6:=px
     clear l0 l1 l2 m0 m1 m2 HG HGa HGb HGn hg7 hg7s ho7 hox hcellk hwk hV8 hva2 hln2 hvc2 gx SBx SBw RBx RBw Rx OBx px pw jt hj1 hj2 ej GW6
     go_wp2_with (first
      | (refine Ybd rfl 3 _ _ rfl _ 3 rfl rfl p6 (by show 3<5;decide) info_int1 rfl ?_;intro w8 p8 g8;have p8:w8.heap[w5.heap.size]?=some (.cells (bkC ⟨q0,q1,q2,who,q4⟩) 81 (0,0)):=p8;have SB8:=(g8.block _ (lt_of_block SB6) (by simp;omega)).trans SB6;have RB8:=(g8.block _ (lt_of_block RB6) (by simp;omega)).trans RB6;have OB8:=World.ownsRow.kept OB6 g8 (.inr (fun e=>by injection e with e;have e:g=_:=e;omega));have R8:=R6.new g8 p6 (by omega))
      | (refine Yad rfl 81 _ rfl _ 0 rfl p8 (bkC ⟨q0,q1,q2,who,q4⟩) (fun j v hj=>by simpa using hj) _ Tryz.underlying81 rfl Yec ?_)
      | (refine Ydb (q:=⟨q0,q1,q2,who,q4⟩) rfl _ _ rfl rfl rfl OB8 (by rw [← HSP.out];exact HN.out) HTI.out ?_;intro w9 OB9 g9;have SB9:=(g9.block _ (lt_of_block SB8) (by simp;omega)).trans SB8;have RB9:=(g9.block _ (lt_of_block RB8) (by simp;omega)).trans RB8;obtain ⟨_,cur8,hcur8⟩:=Yct OB8 rfl;have R9:=R8.new g9 hcur8 (by omega))
      | (refine Ybd (u:=.slice (some ⟨g,0,none⟩) n c5) rfl 27 _ _ rfl _ 2 rfl rfl SB9 (by show 2<21;decide) info_bsl (by rfl) ?_;intro w10 SB10 g10;rw [sC_blks] at SB10;have RB10:=(g10.block _ (lt_of_block RB9) (by simp)).trans RB9;have R10:=R9.past g10 SB9 Ybt;have OB10:=Ya8 OB9 g10 SB9 Ybt.1)
      | (refine Yad rfl 36 _ rfl _ 0 rfl SB10 (sC all S.E (some ⟨g,0,none⟩) n c5 va2 ln2 vc2 da dn dc na nn nc S.lv) (fun j v hj=>by simpa using hj) _ Tryz.underlying36 rfl Yai ?_)
      | (refine Yae (ps:=sC all S.E (some ⟨g,0,none⟩) n c5 va2 ln2 vc2 da dn dc na nn nc S.lv) rfl 36 _ _ rfl _ 0 rfl rfl RB10 (by exact Nat.le_refl 21) (by exact Yai) sC_one ?_;intro w11 RB11 g11;rw [ovr_st] at RB11;have R11:=R10.past g11 RB10 Ybt;have OB11:=Ya8 OB10 g11 RB10 Ybt.1))
     refine bodyPost_ret (results_cell_row rfl _ _ _ _ _ _ _ rfl RB11 Tryz.underlying36 rfl Yai) rfl ?_
     have hA:ownA S.bs i who=S.bs.take i++⟨q0,q1,q2,who,q4⟩::S.bs.drop (i+1):=by unfold ownA gO gS gU gN;rw [HQ.out]
     have hLk:ownL S.bs S.L i who=setL L1 j (q0::L1 j):=by
      have hj:=HJ.out
      unfold ownL Ydl gO
      rw [HQ.out]
      rw [if_neg (by omega),show who - 1=j by omega]
      rw [show lstB S.L (⟨q0,q1,q2,((k+1:Nat):Int),q4⟩:Blk)=L1 by unfold lstB;simp only;rw [if_neg (by omega),show (((k+1:Nat):Int)).toNat - 1=k by omega];exact HL1.out]
     have GF:w.grownBy w11 none:=Yaj (Yaj (Yaj (Yaj GX g8 (fun i hi=>.inl (by injection hi with hi;omega))) g9 (fun i hi=>.inl (by injection hi with hi;omega))) g10 (fun i hi=>.inl (by injection hi with hi;omega))) g11 (fun i hi=>.inl (by injection hi with hi;omega))
     exact ⟨_,rfl,⟨some ⟨g,0,none⟩,n,c5,va2,ln2,vc2,da,dn,dc,na,nn,nc,lD,rfl,by show OwnB w11 base _ _ (ownA S.bs i who);rw [hA];exact OB11.mono (by omega),fun x hx=>by show KF w11 F base _ (ownL S.bs S.L i who x);rw [hLk];exact R11.rows.l x hx,R11.rows.d,hpl,R11.rows.n,R11.rows.f⟩,GF⟩
end
end
end Go.Proofs.YtfhiljglfhekdaaGreat
