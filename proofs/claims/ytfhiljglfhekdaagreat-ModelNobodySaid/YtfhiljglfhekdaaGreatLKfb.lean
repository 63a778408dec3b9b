/-
  Texts of one layer, one behind the other: memory, contracts of the functions, and what follows of them.
  Conditions: as each theorem says.
-/
import Derived.Test.YtfhiljglfhekdaaGreatLKfa
import Derived.Test.YtfhiljglfhekdaaGreatLKcf
import Derived.Test.YtfhiljglfhekdaaGreatLTra
import Derived.Test.YtfhiljglfhekdaaGreatLHea
import Derived.Test.YtfhiljglfhekdaaGreatLHsb
import Derived.Test.YtfhiljglfhekdaaGreatLMpa
import Derived.Test.YtfhiljglfhekdaaGreatLMob
import Derived.Test.YtfhiljglfhekdaaGreatLKca
import Derived.Test.YtfhiljglfhekdaaGreatLKcd
set_option linter.unusedVariables false
set_option linter.unusedSimpArgs false
set_option maxRecDepth 100000
namespace Go.Proofs.YtfhiljglfhekdaaGreat
open Go.RowKit
section
theorem wpList_append_wordsM {w2:World} {base m c:Nat} {v:Value} {xs ys:List Nat} {la:Option Addr} (hown:OwnW w2 base v xs) (hp:Yb1 w2 la ys) (hy:ys.length=m) (hm:xs.length+m≤1000000) (hbase:base≤w2.heap.size)
  {ops:Array Oper} {rest:List Oper} {o:Oper} {a:Act} {Q:Exit→Act→World→Prop} (hgd:o.guard=none) (s x:Operand)
  (ho:o.op=.call { callee:=.builtin .append,args:=#[s,x],argTypes:=#[28,28] })
  (hs:a.eval s=v) (hx:a.eval x=.slice la m c)
  (h:∀ v' w',OwnW w' base v' (xs++ys)→w2.grownBy w' v.ownBlock→wpList Tryz.prog ops Q rest (a.put o.dst v') w') :
  wpList Tryz.prog ops Q (o::rest) a w2:=by
 subst hy
 exact Yd7 hown hp hm hbase hgd s x ho hs hx h
theorem own_emptyW (w:World) (base:Nat) (hb:base≤w.heap.size):OwnW (w.alloc (.cells #[] 26)) base (.slice (some ⟨w.heap.size,0,none⟩) 0 0) [] :=
 ⟨rfl,.inr ⟨w.heap.size,0,#[],rfl,hb,Yab w _,Nat.le_refl _,Nat.zero_le _,rfl,rfl⟩⟩
section
variable {w w' W:World} {F:Nat→Prop} {base all K c i:Nat} {v:Value} {S:MS} {x:OpM}
set_option maxHeartbeats 2000000 in
theorem rblk_read (h:StIs w F base v all S) (hlen:S.bs.length≤1000000) (hds:S.ds.length≤1000000) (hFb:∀ g,F g→g<w.heap.size) (hbw:base≤w.heap.size) (hc:c<8) (hx:OpOk x) (hz:ownR S c x=0) (hk:x.kind=7) (hlt:x.i<(datL S.ds x.off).length) (hdl:(datL S.ds x.off).length≤1000000) :
  Calls Tryz.prog 53 #[v,.int .i64 c,.agg (opC x)] w fun e w'=>∃ v',e=.returned (.tuple #[v',.agg #[.int .i64 0,.int .u64 0,.int .u64 ((datL S.ds x.off).getD x.i 0:Nat)]])∧StIs w' F base v' all S∧w.grownBy w' none:=by
 obtain ⟨cs,rfl,hs0,hs1,hs00,hsl⟩:=h.cells
 have BX:=Ybf w cs (opC x)
 obtain ⟨W0,hW0⟩:∃ W0,((((w.alloc (.cells cs 36)).alloc (.cells (opC x) 41)).alloc (.cells sZ 36)).alloc (.cells rZ 46))=W0:=⟨_,rfl⟩
 rw [hW0] at BX
 have HST:=Lib.hid h
 have hown:=fun (V:World) (hg:w.grownBy V none)=>Ydc (h.later hg) hlen hc x
 obtain ⟨z,ez⟩:∃ z,fstZ (pF x.off) S.bs=z:=⟨_,rfl⟩
 simp only [hz,ez] at hown
 have hdata:=fun (V:World) (hg:w.grownBy V none)=>Ydx (h.later hg) hds x.off
 have hxi:=hx.i
 have hxv:=hx.v
 obtain ⟨D,eD⟩:∃ D,datL S.ds x.off=D:=⟨_,rfl⟩
 rw [eD] at hlt hdl ⊢
 simp only [eD] at hdata
 have HOWN:=Lib.hid hown
 have HDATA:=Lib.hid hdata
 have HL:=Lib.hid hlt
 have HDL:=Lib.hid hdl
 obtain ⟨y,ey⟩:∃ y,D.getD x.i 0=y:=⟨_,rfl⟩
 rw [ey]
 clear h hown hdata ez hz hx hlt hdl
 unfold sZ rZ at hW0
 go_enter Tryz.func53,Tryz.ntmps53
 go_wp2_with (first
  | (refine Yad rfl 36 _ rfl _ 0 rfl BX.st cs (fun j v hj=>by simpa using hj) _ Tryz.underlying36 rfl (by rw [Yai,hs0]) ?_)
  | (refine Yad rfl 41 _ rfl _ 0 rfl BX.op (opC x) (fun j v hj=>by simpa using hj) _ Tryz.underlying41 rfl Ybb ?_)
  | (go_at_call 83;(with_reducible refine (HOWN.out _ BX.gr).mono ?_);rintro e w1 ⟨rfl,hg1⟩;replace BX:=BX.later hg1;obtain ⟨d0,d1,d2,d3,d4,d5,d6,d7⟩:=Yal BX.op;rw [hk] at d0)
  | (go_at_call 54;(with_reducible refine (HDATA.out _ BX.gr).mono ?_);rintro e w3 ⟨da,dm,dk,rfl,hdw,hg3⟩;replace BX:=BX.later hg3;obtain ⟨d0,d1,d2,d3,d4,d5,d6,d7⟩:=Yal BX.op;rw [hk] at d0;have hm:=own_len hdw;have hlt2:x.i<dm:=(by rw [hm];exact HL.out);have hdm:dm≤1000000:=(by rw [hm];exact HDL.out);obtain ⟨a9,c9,g9,e9,e10,e11⟩:=hdw.addr;have e12:da=some ⟨g9,0,none⟩:=(by injection e9 with k1 k2 k3;rw [k1];exact e10 (Nat.lt_of_le_of_lt (Nat.zero_le _) HL.out));subst e12;have hwd:=hdw;clear e9 e10;have hcr:∀ V,w3.grownBy V none→V.cell? ⟨g9,x.i,none⟩=some (.int .u64 (y:Nat)):=(fun V hV=>by rw [← ey];exact e11 V (hwd.later hV) x.i HL.out)))
 have HCR:=Lib.hid hcr
 clear e11 hcr
 have hxl:x.i<D.length:=HL.out
 have HG:w3.grownBy w3.drew none:=Yah (Yag w3 none)
 have BXd:=BX.later HG
 obtain ⟨u0,u1,u2,u3,u4,u5,u6,u7⟩:=Yal BXd.op
 have cr:=HCR.out _ HG
 obtain ⟨cur,hcur⟩:=Ycn (hwd.mono (Nat.zero_le _)) rfl
 have hcurd:w3.drew.heap[g9]?=some (.cells cur 26 (0,0)):=hcur
 have hng:g9≠w.heap.size+1+1:=Ybu hcurd BXd.rs (by decide)
 have hng2:g9≠w.heap.size+1+1+1:=Ybu hcurd BXd.rr (by decide)
 refine wp_region_held_drew (S:=fun V=>V.heap[w.heap.size]?=some (.cells cs 36 (0,0))∧V.cell? ⟨w.heap.size+1,4,none⟩=some (.int .u64 (x.i:Nat))∧V.cell? ⟨g9,x.i,none⟩=some (.int .u64 (y:Nat))) (by kernel_rfl) ⟨BXd.st,u4,cr⟩ (fun hHeld=>?_)
 refine hY 0 139 (v:=.agg cs) rfl rfl hHeld ?y0 ?r0
 case y0=>exact Ycz 36 _ rfl _ 0 rfl (fun W hW=>hW.1) cs (fun j v hj=>by simpa using hj) _ Tryz.underlying36 rfl (by rw [Yai,hs0])
 case r0 =>
 simp only [Act.put,List.setIfInBounds_toArray,List.set_cons_zero,List.set_cons_succ]
 refine hY 1 140 (v:=?_) rfl rfl hHeld ?y1 ?r1
 case y1=>(intro w hSw;(try dsimp only at hSw);go_simp;try (with_reducible rfl))
 case r1 =>
 simp only [Act.put,List.setIfInBounds_toArray,List.set_cons_zero,List.set_cons_succ]
 refine hY 2 141 (v:=?_) rfl rfl hHeld ?y2 ?r2
 case y2=>(intro w hSw;(try dsimp only at hSw);go_simp;try (with_reducible rfl))
 case r2 =>
 simp only [Act.put,List.setIfInBounds_toArray,List.set_cons_zero,List.set_cons_succ]
 refine hY 3 142 (v:=?_) rfl rfl hHeld ?y3 ?r3
 case y3=>(intro w hSw;(try dsimp only at hSw);go_simp;try (with_reducible rfl))
 case r3 =>
 simp only [Act.put,List.setIfInBounds_toArray,List.set_cons_zero,List.set_cons_succ]
 refine hY 4 143 (v:=?_) rfl rfl hHeld ?y4 ?r4
 case y4=>(intro w hSw;(try dsimp only at hSw);go_simp;try (with_reducible rfl))
 case r4 =>
 simp only [Act.put,List.setIfInBounds_toArray,List.set_cons_zero,List.set_cons_succ]
 refine hY 5 144 (v:=?_) rfl rfl hHeld ?y5 ?r5
 case y5=>(intro w hSw;(try dsimp only at hSw);go_simp;try (with_reducible rfl))
 case r5 =>
 simp only [Act.put,List.setIfInBounds_toArray,List.set_cons_zero,List.set_cons_succ]
 refine hY 6 145 (v:=?_) rfl rfl hHeld ?y6 ?r6
 case y6=>(intro w hSw;(try dsimp only at hSw);go_simp;try (with_reducible rfl))
 case r6 =>
 simp only [Act.put,List.setIfInBounds_toArray,List.set_cons_zero,List.set_cons_succ]
 refine wpAnyH_ready (rs:=[7]) (by kernel_rfl) (by simp) (AllReadyH.cons rfl (fun K hK=>?_) AllReadyH.nil)
 refine Ybe rfl 36 _ _ rfl _ 0 rfl rfl BXd.rs (by rw [hs0];exact Nat.le_refl _) (by rw [Yai,hs0]) hs1 ?_
 intro W1 p1 g1
 rw [Yau _ _ hs0] at p1
 obtain ⟨y0,y1,y2⟩:=Yaf (BXd.res g1)
 obtain ⟨z0,z1,z2⟩:=Yak (BXd.res g1)
 have hS1:W1.heap[w.heap.size]?=some (.cells cs 36 (0,0))∧W1.cell? ⟨w.heap.size+1,4,none⟩=some (.int .u64 (x.i:Nat))∧W1.cell? ⟨g9,x.i,none⟩=some (.int .u64 (y:Nat)):=⟨(g1.block _ (lt_of_block BXd.st) (by simp <;> omega)).trans BXd.st,(World.cell?_of_block (w:=w3.drew) (a:=⟨w.heap.size+1,4,none⟩) (g1.block _ (lt_of_block BXd.op) (by simp <;> omega))).trans u4,(World.cell?_of_block (w:=w3.drew) (a:=⟨g9,x.i,none⟩) (g1.block _ (lt_of_block hcurd) (by simpa using hng))).trans cr⟩
 refine hK.out _ _ hS1 (fun hHeld=>?_)
 clear hK K
 simp only [Act.put,List.setIfInBounds_toArray,List.set_cons_zero,List.set_cons_succ]
 refine wpAnyH_ready (rs:=[8]) (by kernel_rfl) (by simp <;> omega) (AllReadyH.cons rfl (fun K hK=>?_) AllReadyH.nil)
 have hS2:∀ a b c:Value,(((W1.setCell ⟨w.heap.size+1+1+1,0,none⟩ a).setCell ⟨w.heap.size+1+1+1,1,none⟩ b).setCell ⟨w.heap.size+1+1+1,2,none⟩ c).heap[w.heap.size]?=some (.cells cs 36 (0,0))∧(((W1.setCell ⟨w.heap.size+1+1+1,0,none⟩ a).setCell ⟨w.heap.size+1+1+1,1,none⟩ b).setCell ⟨w.heap.size+1+1+1,2,none⟩ c).cell? ⟨w.heap.size+1,4,none⟩=some (.int .u64 (x.i:Nat))∧(((W1.setCell ⟨w.heap.size+1+1+1,0,none⟩ a).setCell ⟨w.heap.size+1+1+1,1,none⟩ b).setCell ⟨w.heap.size+1+1+1,2,none⟩ c).cell? ⟨g9,x.i,none⟩=some (.int .u64 (y:Nat)):=fun a b c=>by
  have g2:W1.grownBy (((W1.setCell ⟨w.heap.size+1+1+1,0,none⟩ a).setCell ⟨w.heap.size+1+1+1,1,none⟩ b).setCell ⟨w.heap.size+1+1+1,2,none⟩ c) (some (w.heap.size+1+1+1)):=Yaa (Yac _ _ _ _) (Yaa (Yac _ _ _ _) (Yac _ _ _ _))
  have hop1:=(g1.block _ (lt_of_block BXd.op) (by simp <;> omega)).trans BXd.op
  have hcur1:=(g1.block _ (lt_of_block hcurd) (by simpa using hng)).trans hcurd
  exact ⟨(g2.block _ (lt_of_block hS1.1) (by simp <;> omega)).trans hS1.1,(World.cell?_of_block (w:=W1) (a:=⟨w.heap.size+1,4,none⟩) (g2.block _ (lt_of_block hop1) (by simp <;> omega))).trans hS1.2.1,(World.cell?_of_block (w:=W1) (a:=⟨g9,x.i,none⟩) (g2.block _ (lt_of_block hcur1) (by simpa using hng2))).trans hS1.2.2⟩
 have HS2:=Lib.hid hS2
 clear hS2
 go_simp
 refine hK.out _ _ (HS2.out _ _ _) (fun hHeld=>?_)
 clear hK K
 try simp only [Act.put,List.setIfInBounds_toArray,List.set_cons_zero,List.set_cons_succ]
 refine wpAnyH_done (by kernel_rfl) ?_ _
 go_wp2
 obtain ⟨q1,q2,q3,q4⟩:=BXd.done (HST.out.later BXd.gr) p1 g1 (e:=0) (p:=0) (q:=y)
 refine bodyPost_ret (Yav rfl _ rfl rfl q1 q2 Tryz.underlying36 rfl (by rw [Yai,hs0]) Tryz.underlying46 rfl Ya0) rfl ?_
 exact ⟨_,rfl,q3,q4⟩
set_option maxHeartbeats 4000000 in
theorem rblk_write (h:StIs w F base v all S) (hlen:S.bs.length≤1000000) (hds:S.ds.length≤1000000) (hFb:∀ g,F g→g<w.heap.size) (hbw:base≤w.heap.size) (hc:c<8) (hx:OpOk x) (hz:ownR S c x=0) (hk:x.kind=6) (hlt:x.i<(datL S.ds x.off).length) (hdl:(datL S.ds x.off).length≤1000000) :
  Calls Tryz.prog 53 #[v,.int .i64 c,.agg (opC x)] w fun e w'=>∃ v',e=.returned (.tuple #[v',.agg #[.int .i64 0,.int .u64 0,.int .u64 0]])∧StIs w' F base v' all { S with ds:=putL S.ds x.off ((datL S.ds x.off).set x.i x.v) }∧w.grownBy w' none:=by
 obtain ⟨cs,rfl,hs0,hs1,hs00,hsl⟩:=h.cells
 have BX:=Ybf w cs (opC x)
 obtain ⟨W0,hW0⟩:∃ W0,((((w.alloc (.cells cs 36)).alloc (.cells (opC x) 41)).alloc (.cells sZ 36)).alloc (.cells rZ 46))=W0:=⟨_,rfl⟩
 rw [hW0] at BX
 have HST:=Lib.hid h
 have hown:=fun (V:World) (hg:w.grownBy V none)=>Ydc (h.later hg) hlen hc x
 obtain ⟨z,ez⟩:∃ z,fstZ (pF x.off) S.bs=z:=⟨_,rfl⟩
 simp only [hz,ez] at hown
 have hdata:=fun (V:World) (hg:w.grownBy V none)=>Ydx (h.later hg) hds x.off
 have hxi:=hx.i
 have hxv:=hx.v
 obtain ⟨D,eD⟩:∃ D,datL S.ds x.off=D:=⟨_,rfl⟩
 rw [eD] at hlt hdl ⊢
 simp only [eD] at hdata
 have HOWN:=Lib.hid hown
 have HDATA:=Lib.hid hdata
 have HL:=Lib.hid hlt
 have HDL:=Lib.hid hdl
 obtain ⟨sa,sn,sc,lD,hc11,hod,hpl,hnF,hmk⟩:=h.words
 have hlD:lD.length≤1000000:=by
  have:lD.length=S.ds.length:=by rw [← hpl];simp [Yc6]
  omega
 have hput:=fun (V:World) (da':Option Addr) (dn' dc':Nat) (d:List Nat) (hV:w.grownBy V none) (hd':OwnW V base (.slice da' dn' dc') d)=>rput14 (hod.later hV) hlD x.off hd'
 have hfin:∀ (V:World) (ua:Option Addr) (um uc:Nat) (sv:Value),w.grownBy V none→OwnD V base base (.slice ua um uc) (drpD lD x.off++[(x.off,sv,D.set x.i x.v)])→(∀ g,sv.ownBlock=some g→¬ F g)→StIs V F base (.agg (cs.setIfInBounds 11 (.slice ua um uc))) all { S with ds:=putL S.ds x.off (D.set x.i x.v) }:=fun V ua um uc sv hV hd hf=>by
  have:=hmk V ua um uc _ hV hd fun t ht=>by
   rcases List.mem_append.1 ht with q|q
   ·exact hnF t (List.mem_filter.1 q).1
   ·rw [List.mem_singleton.1 q];exact hf
  rw [plainD_put,hpl] at this
  exact this
 have HPUT:=Lib.hid hput
 have HFIN:=Lib.hid hfin
 have HC:=Lib.hid hc11
 clear h hown hdata ez hz hx hlt hdl hput hmk hnF hc11 hod hfin hpl
 unfold sZ rZ at hW0
 go_enter Tryz.func53,Tryz.ntmps53
 go_wp2_with (first
  | (refine Yad rfl 36 _ rfl _ 0 rfl BX.st cs (fun j v hj=>by simpa using hj) _ Tryz.underlying36 rfl (by rw [Yai,hs0]) ?_)
  | (refine Yad rfl 41 _ rfl _ 0 rfl BX.op (opC x) (fun j v hj=>by simpa using hj) _ Tryz.underlying41 rfl Ybb ?_)
  | (go_at_call 83;(with_reducible refine (HOWN.out _ BX.gr).mono ?_);rintro e w1 ⟨rfl,hg1⟩;replace BX:=BX.later hg1;obtain ⟨d0,d1,d2,d3,d4,d5,d6,d7⟩:=Yal BX.op;rw [hk] at d0)
  | (go_at_call 54;(with_reducible refine (HDATA.out _ BX.gr).mono ?_);rintro e w3 ⟨da,dm,dk,rfl,hdw,hg3⟩;replace BX:=BX.later hg3;obtain ⟨d0,d1,d2,d3,d4,d5,d6,d7⟩:=Yal BX.op;rw [hk] at d0;obtain ⟨l8,c8,e8,hwA⟩:=hdw.lie;have e8':l8=da:=(by injection e8 with k1 k2 k3;exact k1.symm);rw [e8'] at hwA;have hm:=own_len hdw;have hlt2:x.i<dm:=(by rw [hm];exact HL.out);have hdm:dm≤1000000:=(by rw [hm];exact HDL.out);obtain ⟨a9,c9,g9,e9,e10,e11⟩:=hdw.addr;have e12:da=some ⟨g9,0,none⟩:=(by injection e9 with k1 k2 k3;rw [k1];exact e10 (Nat.lt_of_le_of_lt (Nat.zero_le _) HL.out));subst e12;have hwd:=hdw;clear e9 e10;have hb3:=BX.gr.size;have hem:=own_emptyW w3 w3.heap.size (Nat.le_refl _);have hge:=World.grownBy_alloc w3 (.cells #[] 26) none)
  | (at_builtin;go_must (refine wpList_append_wordsM hem (hwA.later hge) (by first|rfl|exact hm.symm) (Nat.le_trans (Nat.le_of_eq (Nat.zero_add _)) hdm) (by rw [World.size_alloc];omega) rfl _ _ rfl rfl rfl ?_);intro v6 w6 hv6 hg6;rw [List.nil_append] at hv6;have hg6n:w3.grownBy w6 none:=Yap (Yaa (Yam hge _) hg6) (Nat.le_refl _);obtain ⟨a6,c6,g6,e6,e6a,-⟩:=hv6.addr;have e6b:=e6a (Nat.lt_of_le_of_lt (Nat.zero_le _) HL.out);subst e6b;subst e6;have hgN:w3.heap.size≤g6:=(World.ownsRow.lt hv6 g6 rfl).1;have BX6:=BX.later hg6n;obtain ⟨d0,d1,d2,d3,d4,d5,d6,d7⟩:=Yal BX6.op;obtain ⟨-,cg,fz⟩:=own_set1 (hv6.mono (Nat.zero_le _)) rfl HL.out x.v;have hset:=OwnW.set hv6 x.i x.v;have hg7:w3.grownBy (w6.setCell ⟨g6,x.i,none⟩ (.int .u64 (x.v:Nat))) none:=Yaj hg6n (Yac _ _ _ _) (fun i hi=>.inl (by injection hi with hi;omega));obtain ⟨W7,hW7⟩:∃ W7,w6.setCell ⟨g6,x.i,none⟩ (.int .u64 (x.v:Nat))=W7:=⟨_,rfl⟩;rw [hW7] at hset hg7;have hsetb:=hset.mono (Nat.le_trans hbw BX.gr.size);have hnF6:∀ g,(Value.slice (some ⟨g6,0,none⟩) (D.set x.i x.v).length c6).ownBlock=some g→¬ F g:=(fun g e k=>by have h1:=hFb g k;have h2:g6=g:=(by injection e);have h3:=BX.gr.size;omega);replace BX:=BX.later hg7;obtain ⟨k0,k1,k2,k3,k4,k5,k6,k7⟩:=Yal BX.op;have c11:=Yas BX.st HC.out;have hlen6:(D.set x.i x.v).length=D.length:=List.length_set;rw [hlen6] at hsetb hnF6)
  | (go_at_call 77;(with_reducible refine (HPUT.out _ _ _ _ _ BX.gr hsetb).mono ?_);rintro e w8 ⟨v8,rfl,hD8,hg8⟩;have hD8b:=hD8.mono (Nat.le_trans hbw BX.gr.size) (Nat.le_refl base);obtain ⟨ua,uc,hv8⟩:=hD8.form;obtain ⟨um,hum⟩:∃ q,(drpD lD x.off++[(x.off,Value.slice (some ⟨g6,0,none⟩) D.length c6,D.set x.i x.v)]).length=q:=⟨_,rfl⟩;rw [hum] at hv8;subst hv8;replace BX:=BX.later hg8;have c11:=Yas BX.st HC.out;have z11:=Ydw BX.st 11;have hst9:=(HFIN.out w8 ua um uc _ BX.gr hD8b hnF6).past (Yac w8 w.heap.size 11 (.slice ua um uc)) BX.st Ybt;have BX9:=BX.put 11 (.slice ua um uc);obtain ⟨cs9,ecs9⟩:∃ q,cs.setIfInBounds 11 (.slice ua um uc)=q:=⟨_,rfl⟩;rw [ecs9] at BX9 hst9;obtain ⟨t0,t1,-,-⟩:=hst9.one;obtain ⟨W9,hW9⟩:∃ W9,w8.setCell ⟨w.heap.size,11,none⟩ (.slice ua um uc)=W9:=⟨_,rfl⟩;rw [hW9] at BX9 hst9)
  | (refine Yad rfl 36 _ rfl _ 0 rfl BX9.st cs9 (fun j v hj=>by simpa using hj) _ Tryz.underlying36 rfl (by rw [Yai,t0]) ?_)
  | (refine Yae rfl 36 _ _ rfl _ 0 rfl rfl BX9.rs (by rw [t0];exact Nat.le_refl _) (by rw [Yai,t0]) t1 ?_;intro W1 p1 g1;rw [Yau _ _ t0] at p1;obtain ⟨y0,y1,y2⟩:=Yaf (BX9.res g1);obtain ⟨z0,z1,z2⟩:=Yak (BX9.res g1)))
 obtain ⟨q1,q2,q3,q4⟩:=BX9.done hst9 p1 g1 (e:=0) (p:=0) (q:=0)
 refine bodyPost_ret (Yav rfl _ rfl rfl q1 q2 Tryz.underlying36 rfl (by rw [Yai,t0]) Tryz.underlying46 rfl Ya0) rfl ?_
 exact ⟨_,rfl,q3,q4⟩
end
end
section
section
variable {w w' W:World} {F:Nat→Prop} {base all K c i:Nat} {v:Value} {S:MS} {x:OpM}
set_option maxHeartbeats 2000000 in
theorem rblk_reallocNo (h:StIs w F base v all S) (hF:Fine 64 S.E S.bs S.L) (hds:S.ds.length≤1000000) (hFb:∀ g,F g→g<w.heap.size) (hbw:base≤w.heap.size) (hc:c<8) (hx:OpOk x) (hz:ownR S c x=0) (hk:x.kind=4) (hne:rzE S.bs x.off x.n≠0) :
  Calls Tryz.prog 53 #[v,.int .i64 c,.agg (opC x)] w fun e w'=>∃ v',e=.returned (.tuple #[v',.agg #[.int .i64 (rzE S.bs x.off x.n:Nat),.int .u64 0,.int .u64 0]])∧StIs w' F base v' all S∧w.grownBy w' none:=by
 obtain ⟨cs,rfl,hs0,hs1,hs00,hsl⟩:=h.cells
 have BX:=Ybf w cs (opC x)
 obtain ⟨W0,hW0⟩:∃ W0,((((w.alloc (.cells cs 36)).alloc (.cells (opC x) 41)).alloc (.cells sZ 36)).alloc (.cells rZ 46))=W0:=⟨_,rfl⟩
 rw [hW0] at BX
 have HST:=Lib.hid h
 have hlen:S.bs.length≤1000000:=by have:=hF.few;omega
 have hown:=fun (V:World) (hg:w.grownBy V none)=>Ydc (h.later hg) hlen hc x
 obtain ⟨z,ez⟩:∃ z,fstZ (pF x.off) S.bs=z:=⟨_,rfl⟩
 simp only [hz,ez] at hown
 have hdata:=fun (V:World) (hg:w.grownBy V none)=>Ydx (h.later hg) hds x.off
 have HOWN:=Lib.hid hown
 have HDATA:=Lib.hid hdata
 obtain ⟨hs,hhz,hin,hv0,hmk⟩:=h.heap
 have hrz:=fun (V:World) (hg:w.grownBy V none)=>rz_fineF (hv:=hv0.later hg) hF (by decide) (fun g k=>Nat.lt_of_lt_of_le (hFb g k) hg.size) (Nat.le_trans hbw hg.size) x.off x.n hx.n
 obtain ⟨er,eer⟩:∃ q,rzE S.bs x.off x.n=q:=⟨_,rfl⟩
 obtain ⟨rp,erp⟩:∃ q,rzP S.bs x.off x.n=q:=⟨_,rfl⟩
 obtain ⟨rb,erb⟩:∃ q,rzB S.bs x.off x.n=q:=⟨_,rfl⟩
 obtain ⟨rl,erl⟩:∃ q,rzL S.bs S.L x.off x.n=q:=⟨_,rfl⟩
 simp only [eer,erp,erb,erl] at hrz
 rw [eer] at hne ⊢
 have he1:((er:Int) != 0)=true:=by simp;omega
 have he2:¬ (er:Int)=0:=by omega
 have htold:=fun (V:World)=>Yc2 h er V
 have HTOLD:=Lib.hid htold
 have HIN:=Lib.hid hin
 have HMK:=Lib.hid hmk
 have HRZ:=Lib.hid hrz
 clear h hown hdata htold hmk hin hv0 hrz ez hz hF eer erp erb erl hx
 unfold sZ rZ at hW0
 go_enter Tryz.func53,Tryz.ntmps53
 go_wp2_with (first
  | (refine Yad rfl 36 _ rfl _ 0 rfl BX.st cs (fun j v hj=>by simpa using hj) _ Tryz.underlying36 rfl (by rw [Yai,hs0]) ?_)
  | (refine Yad rfl 41 _ rfl _ 0 rfl BX.op (opC x) (fun j v hj=>by simpa using hj) _ Tryz.underlying41 rfl Ybb ?_)
  | (refine Yad rfl 31 _ rfl _ 1 rfl BX.st hs HIN.out _ Tryz.underlying31 rfl (by rw [Ybc,hhz]) ?_)
  | (go_at_call 83;(with_reducible refine (HOWN.out _ BX.gr).mono ?_);rintro e w1 ⟨rfl,hg1⟩;replace BX:=BX.later hg1;obtain ⟨d0,d1,d2,d3,d4,d5,d6,d7⟩:=Yal BX.op;rw [hk] at d0)
  | (go_at_call 54;(with_reducible refine (HDATA.out _ BX.gr).mono ?_);rintro e w3 ⟨da,dm,dk,rfl,hdw,hg3⟩;replace BX:=BX.later hg3;obtain ⟨d0,d1,d2,d3,d4,d5,d6,d7⟩:=Yal BX.op;rw [hk] at d0)
  | (go_at_call 84;(with_reducible refine (HRZ.out _ BX.gr).mono ?_);rintro e w5 ⟨v5,rfl,hv5,hg5⟩;replace BX:=BX.later hg5;obtain ⟨hs5,rfl,n0,n1,hst5⟩:=HMK.out w5 _ _ _ _ BX.gr hv5;have b5:=Yab w5 (.cells #[.int .u64 0,.slice none 0 0,.slice none 0 0,.slice none 0 0,.slice none 0 0,.slice none 0 0,.slice none 0 0,.slice none 0 0,.slice none 0 0,.slice none 0 0] 31);have g5:=World.grownBy_alloc w5 (.cells #[.int .u64 0,.slice none 0 0,.slice none 0 0,.slice none 0 0,.slice none 0 0,.slice none 0 0,.slice none 0 0,.slice none 0 0,.slice none 0 0,.slice none 0 0] 31) none)
  | (refine Yae rfl 31 _ _ rfl _ 0 rfl rfl b5 (by rw [n0];exact Nat.le_refl _) (by rw [Ybc,n0]) n1 ?_;intro W6 p5 g6;rw [Yau _ _ n0] at p5;have G6:=Yap (Yaa (Yam g5 _) g6) (Nat.le_refl _);replace BX:=BX.later G6;replace hst5:=hst5.later G6)
  | (go_at_call 48;(with_reducible refine (HTOLD.out _).mono ?_);rintro e w2 ⟨rfl,hg2⟩;replace BX:=BX.later hg2)
  | (refine Yae rfl 36 _ _ rfl _ 0 rfl rfl BX.rs (by rw [hs0];exact Nat.le_refl _) (by rw [Yai,hs0]) hs1 ?_;intro W1 p1 g1;rw [Yau _ _ hs0] at p1;obtain ⟨y0,y1,y2⟩:=Yaf (BX.res g1);obtain ⟨z0,z1,z2⟩:=Yak (BX.res g1)))
 obtain ⟨q1,q2,q3,q4⟩:=BX.done (HST.out.later BX.gr) p1 g1 (e:=er) (p:=0) (q:=0)
 refine bodyPost_ret (Yav rfl _ rfl rfl q1 q2 Tryz.underlying36 rfl (by rw [Yai,hs0]) Tryz.underlying46 rfl Ya0) rfl ?_
 exact ⟨_,rfl,q3,q4⟩
set_option maxHeartbeats 4000000 in
theorem rblk_realloc (h:StIs w F base v all S) (hF:Fine 64 S.E S.bs S.L) (hds:S.ds.length≤1000000) (hFb:∀ g,F g→g<w.heap.size) (hbw:base≤w.heap.size) (hc:c<8) (hx:OpOk x) (hz:ownR S c x=0) (hk:x.kind=4) (hzr:rzE S.bs x.off x.n=0) (hn6:(x.n+7) / 8≤1000000) (hdl:(datL S.ds x.off).length≤1000000) :
  Calls Tryz.prog 53 #[v,.int .i64 c,.agg (opC x)] w fun e w'=>∃ v',e=.returned (.tuple #[v',.agg #[.int .i64 0,.int .u64 (rzP S.bs x.off x.n:Nat),.int .u64 0]])∧StIs w' F base v' all (rzM S x.off x.n)∧w.grownBy w' none:=by
 show Calls _ _ _ _ fun e w'=>∃ v',e=.returned (.tuple #[v',.agg #[.int .i64 0,.int .u64 (rzP S.bs x.off x.n:Nat),.int .u64 0]])∧StIs w' F base v' all { S with bs:=rzB S.bs x.off x.n,L:=rzL S.bs S.L x.off x.n,ds:=putL (drpL S.ds x.off) (rzP S.bs x.off x.n) (sizN (datL S.ds x.off) ((x.n+7) / 8)) }∧w.grownBy w' none
 obtain ⟨cs,rfl,hs0,hs1,hs00,hsl⟩:=h.cells
 have BX:=Ybf w cs (opC x)
 obtain ⟨W0,hW0⟩:∃ W0,((((w.alloc (.cells cs 36)).alloc (.cells (opC x) 41)).alloc (.cells sZ 36)).alloc (.cells rZ 46))=W0:=⟨_,rfl⟩
 rw [hW0] at BX
 have HST:=Lib.hid h
 have hlen:S.bs.length≤1000000:=by have:=hF.few;omega
 have hown:=fun (V:World) (hg:w.grownBy V none)=>Ydc (h.later hg) hlen hc x
 obtain ⟨z,ez⟩:∃ z,fstZ (pF x.off) S.bs=z:=⟨_,rfl⟩
 simp only [hz,ez] at hown
 have hdata:=fun (V:World) (hg:w.grownBy V none)=>Ydx (h.later hg) hds x.off
 have HOWN:=Lib.hid hown
 have HDATA:=Lib.hid hdata
 obtain ⟨hs,hhz,hin,hv0,hmk⟩:=h.heap
 have hrz:=fun (V:World) (hg:w.grownBy V none)=>rz_fineF (hv:=hv0.later hg) hF (by decide) (fun g k=>Nat.lt_of_lt_of_le (hFb g k) hg.size) (Nat.le_trans hbw hg.size) x.off x.n hx.n
 obtain ⟨er,eer⟩:∃ q,rzE S.bs x.off x.n=q:=⟨_,rfl⟩
 obtain ⟨rp,erp⟩:∃ q,rzP S.bs x.off x.n=q:=⟨_,rfl⟩
 obtain ⟨rb,erb⟩:∃ q,rzB S.bs x.off x.n=q:=⟨_,rfl⟩
 obtain ⟨rl,erl⟩:∃ q,rzL S.bs S.L x.off x.n=q:=⟨_,rfl⟩
 simp only [eer,erp,erb,erl] at hrz
 rw [eer] at hzr
 subst hzr
 rw [erp,erb,erl]
 obtain ⟨D,eD⟩:∃ D,datL S.ds x.off=D:=⟨_,rfl⟩
 rw [eD] at hdl ⊢
 simp only [eD] at hdata
 replace hrz:∀ V:World,w.grownBy V none→Calls Tryz.prog 84 #[.agg hs,.int .u64 x.off,.int .u64 x.n] V fun e w'=>∃ v',e=.returned (.tuple #[v',.int .u64 rp,.int .i64 0])∧HvF w' F base v' S.E rb rl∧V.grownBy w' none:=hrz
 have HDATA:=Lib.hid hdata
 have HDL:=Lib.hid hdl
 have HIN:=Lib.hid hin
 have HMK:=Lib.hid hmk
 have HRZ:=Lib.hid hrz
 have hxn:=hx.n
 have hwds:=fun V=>rwords_any x.n hxn V
 obtain ⟨kk,ekk⟩:∃ q,(x.n+7) / 8=q:=⟨_,rfl⟩
 rw [ekk] at hn6 ⊢
 simp only [ekk] at hwds
 have HWDS:=Lib.hid hwds
 clear hwds ekk
 clear h hown hdata hmk hin hv0 hrz ez hz hF eer erp erb erl hx hdl eD
 unfold sZ rZ at hW0
 go_enter Tryz.func53,Tryz.ntmps53
 go_wp2_with (first
  | (refine Yad rfl 36 _ rfl _ 0 rfl BX.st cs (fun j v hj=>by simpa using hj) _ Tryz.underlying36 rfl (by rw [Yai,hs0]) ?_)
  | (refine Yad rfl 41 _ rfl _ 0 rfl BX.op (opC x) (fun j v hj=>by simpa using hj) _ Tryz.underlying41 rfl Ybb ?_)
  | (refine Yad rfl 31 _ rfl _ 1 rfl BX.st hs HIN.out _ Tryz.underlying31 rfl (by rw [Ybc,hhz]) ?_)
  | (go_at_call 83;(with_reducible refine (HOWN.out _ BX.gr).mono ?_);rintro e w1 ⟨rfl,hg1⟩;replace BX:=BX.later hg1;obtain ⟨d0,d1,d2,d3,d4,d5,d6,d7⟩:=Yal BX.op;rw [hk] at d0)
  | (go_at_call 54;(with_reducible refine (HDATA.out _ BX.gr).mono ?_);rintro e w3 ⟨da,dm,dk,rfl,hdw,hg3⟩;replace BX:=BX.later hg3;obtain ⟨d0,d1,d2,d3,d4,d5,d6,d7⟩:=Yal BX.op;rw [hk] at d0;obtain ⟨l8,c8,e8,hwA⟩:=hdw.lie;have e8':l8=da:=(by injection e8 with k1 k2 k3;exact k1.symm);clear hwA e8 e8')
  | (go_at_call 84;(with_reducible refine (HRZ.out _ BX.gr).mono ?_);rintro e w5 ⟨v5,rfl,hv5,hg5⟩;replace BX:=BX.later hg5;obtain ⟨hs5,rfl,n0,n1,hst5⟩:=HMK.out w5 _ _ _ _ BX.gr hv5;have b5:=Yab w5 (.cells #[.int .u64 0,.slice none 0 0,.slice none 0 0,.slice none 0 0,.slice none 0 0,.slice none 0 0,.slice none 0 0,.slice none 0 0,.slice none 0 0,.slice none 0 0] 31);have g5:=World.grownBy_alloc w5 (.cells #[.int .u64 0,.slice none 0 0,.slice none 0 0,.slice none 0 0,.slice none 0 0,.slice none 0 0,.slice none 0 0,.slice none 0 0,.slice none 0 0,.slice none 0 0] 31) none)
  | (refine Yae rfl 31 _ _ rfl _ 0 rfl rfl b5 (by rw [n0];exact Nat.le_refl _) (by rw [Ybc,n0]) n1 ?_;intro W6 p5 g6;rw [Yau _ _ n0] at p5;have G6:=Yap (Yaa (Yam g5 _) g6) (Nat.le_refl _);replace BX:=BX.later G6;replace hst5:=hst5.later G6)
  | (refine Yad rfl 31 _ rfl _ 0 rfl p5 hs5 (fun j v hj=>by simpa using hj) _ Tryz.underlying31 rfl (by rw [Ybc,n0]) ?_)
  | (refine Yae rfl 31 _ _ rfl _ 1 rfl rfl BX.st (by rw [n0,hs0];omega) (by rw [Ybc,n0]) n1 ?_;intro W7 p7 g7;have hst7:=hst5.past g7 BX.st Ybt;have hdw7:=Ya8 (hdw.later (Yaa hg5 G6)) g7 BX.st (by decide);have BX7:=BX.over p7 g7;obtain ⟨cs7,ecs7⟩:∃ q,ovr cs 1 hs5.toList=q:=⟨_,rfl⟩;rw [ecs7] at BX7 hst7))
 obtain ⟨sa,sn,sc,lD,hc11,hod,hpl,hnF,hmk7⟩:=hst7.words
 have hlD:lD.length≤1000000:=by
  have:lD.length=S.ds.length:=by rw [show S.ds=Yc6 lD from hpl.symm];simp [Yc6]
  omega
 have hdw8:OwnW W7 base (.slice da dm dk) D:=hdw7
 obtain ⟨l9,c9,e9,hwA⟩:=hdw8.lie
 have e10:l9=da:=by injection e9 with k1 k2 k3;exact k1.symm
 rw [e10] at hwA
 have hm:=own_len hdw8
 have hb7:=BX7.gr.size
 have HC:=Lib.hid hc11
 have hdrp:=fun (V:World) (hg:W7.grownBy V none)=>rdrop14 (hod.later hg) hlD x.off
 have hsz:=fun (V:World) (hg:W7.grownBy V none)=>rsized14 (c:=dk) (hwA.later hg) hm.symm (by rw [hm];exact HDL.out) kk hn6
 have HDRP:=Lib.hid hdrp
 have HSZ:=Lib.hid hsz
 have HWA:=Lib.hid hwA
 have HMK7:=Lib.hid hmk7
 have HNF:=Lib.hid hnF
 have HOD:=Lib.hid hod
 have HPL:=Lib.hid hpl
 clear hdrp hsz hmk7 hnF hod hpl hwA hm e9 e10 hc11 hdw7 hdw8
 rename_i KC hKC
 have hrest:∀ (ra:Option Addr) (rm rc:Nat) (xa:Option Addr) (xn xc:Nat) (ua:Option Addr) (um uc:Nat) (W:World) (cs9:Array Value),Bx w W cs9 (opC x)→StIs W F base (.agg cs9) all { S with bs:=rb,L:=rl,ds:=putL (drpL S.ds x.off) rp (sizN D kk) }→KC { tmps:=#[.agg cs,.int .i64 ↑c,.agg (opC x),.pointer (some { block:=w.heap.size,off:=0 }),undef,.pointer (some { block:=w.heap.size+1,off:=0 }),.pointer (some { block:=w.heap.size+1+1,off:=0 }),.pointer (some { block:=w.heap.size+1+1+1,off:=0 }),.int .i64 z,.int .i64 0,.slice da dm dk,.pointer (some { block:=w5.heap.size,off:=0 }),.int .u64 ↑rp,.int .i64 0,undef,.tuple #[.int .i64 z,.int .i64 0],.agg cs,.int .i64 ↑c,.agg (opC x),.tuple #[.int .i64 z,.int .i64 0],.int .i64 z,.int .i64 0,.int .i64 0,.bool false,undef,undef,undef,undef,undef,.agg cs,.pointer (some { block:=w.heap.size+1,off:=3 }),.int .u64 ↑x.off,.slice da dm dk,.pointer (some { block:=w.heap.size+1,off:=0 }),.int .i64 4,.bool true,.bool true,.tuple #[.agg hs5,.int .u64 ↑rp,.int .i64 0],.pointer (some { block:=w.heap.size,off:=1 }),.agg hs,.pointer (some { block:=w.heap.size+1,off:=3 }),.int .u64 ↑x.off,.pointer (some { block:=w.heap.size+1,off:=1 }),.int .u64 ↑x.n,.tuple #[.agg hs5,.int .u64 ↑rp,.int .i64 0],.agg hs5,.int .u64 ↑rp,.int .i64 0,.int .i64 0,.bool false,undef,undef,undef,undef,undef,.agg hs5,.pointer (some { block:=w.heap.size,off:=1 }),.pointer (some { block:=w.heap.size,off:=11 }),.slice sa sn sc,.pointer (some { block:=w.heap.size+1,off:=3 }),.int .u64 ↑x.off,.slice ra rm rc,.int .u64 ↑rp,.slice da dm dk,.pointer (some { block:=w.heap.size+1,off:=1 }),.int .u64 ↑x.n,.int .u64 ↑kk,.slice xa xn xc,.slice ua um uc,.pointer (some { block:=w.heap.size,off:=11 }),undef,undef,undef,undef,undef,undef,undef,undef,undef,undef,undef,undef,undef,undef,undef,undef,undef,undef,undef,undef,undef,undef,undef,undef,undef,undef,undef,undef,undef,undef,undef,undef,undef,undef,undef,undef,undef,undef,undef,undef,undef,undef,undef,undef,undef,undef,undef,undef,undef,undef,undef,undef,undef,undef,undef,undef,undef,undef,undef,undef,undef,undef,undef,undef,undef,undef,undef,undef,undef,undef,undef,undef,undef,undef,undef,undef,undef,undef,undef,undef,undef,undef,undef,undef,undef,undef,undef,undef,undef,undef,undef,undef,undef,undef],defers:=[] } W:=by
  intro ra rm rc xa xn xc ua um uc W cs9 BX9 hst9
  obtain ⟨t0,t1,-,-⟩:=hst9.one
  apply hKC
  clear hKC HOWN HDATA HDL HIN HMK HRZ HDRP HSZ HWA HMK7 HNF HOD HPL HC HWDS HST BX7 hst7 BX b5 g5 p5 G6 p7 g7 hst5
  go_wp2_with (first
   | (refine Yad rfl 36 _ rfl _ 0 rfl BX9.st cs9 (fun j v hj=>by simpa using hj) _ Tryz.underlying36 rfl (by rw [Yai,t0]) ?_)
   | (refine Yae rfl 36 _ _ rfl _ 0 rfl rfl BX9.rs (by rw [t0];exact Nat.le_refl _) (by rw [Yai,t0]) t1 ?_;intro W1 p1 g1;rw [Yau _ _ t0] at p1;obtain ⟨y0,y1,y2⟩:=Yaf (BX9.res g1);obtain ⟨z0,z1,z2⟩:=Yak (BX9.res g1)))
  obtain ⟨q1,q2,q3,q4⟩:=BX9.done hst9 p1 g1 (e:=0) (p:=rp) (q:=0)
  refine bodyPost_ret (Yav rfl _ rfl rfl q1 q2 Tryz.underlying36 rfl (by rw [Yai,t0]) Tryz.underlying46 rfl Ya0) rfl ?_
  exact ⟨_,rfl,q3,q4⟩
 have HREST:=Lib.hid hrest
 clear hrest hKC
 have HG:W7.grownBy W7.drew none:=Yah (Yag _ _)
 have BXd:=BX7.later HG
 have c11:=Yas BXd.st HC.out
 have z11:=Ydw BXd.st 11
 obtain ⟨d0,d1,d2,d3,d4,d5,d6,d7⟩:=Yal BXd.op
 go_region_law (first
  | (go_simp;go_at_call 79;go_must ((with_reducible refine (HWDS.out _).mono ?_);rintro e w8 ⟨rfl,rfl⟩))
  | (go_simp;go_at_call 71;go_must ((with_reducible refine (HDRP.out _ HG).mono ?_);rintro e w9 ⟨v9,rfl,hD9,hg9⟩;replace hD9:=hD9.mono (Nat.le_trans hbw (Nat.le_trans hb7 HG.size)) (Nat.le_refl base);obtain ⟨ra,rc,hv9⟩:=hD9.form;obtain ⟨rm,hrm⟩:∃ q,(drpD lD x.off).length=q:=⟨_,rfl⟩;rw [hrm] at hv9;subst hv9;(try replace hv10:=hv10.later hg9);replace HG:=Yaa HG hg9;clear c11 z11 d0 d1 d2 d3 d4 d5 d6 d7;replace BXd:=BX7.later HG;have c11:=Yas BXd.st HC.out;have z11:=Ydw BXd.st 11;obtain ⟨d0,d1,d2,d3,d4,d5,d6,d7⟩:=Yal BXd.op))
  | (go_simp;go_at_call 78;go_must ((with_reducible refine (HSZ.out _ HG).mono ?_);rintro e w10 ⟨v10,rfl,hv10,hg10⟩;obtain ⟨xa,xn,xc,hx10⟩:=wv_form hv10;subst hx10;have hnF10:∀ g,(Value.slice xa xn xc).ownBlock=some g→¬ F g:=(fun g e k=>by have h1:=hFb g k;have h2:=(World.ownsRow.lt hv10 g e).1;have h3:=Nat.le_trans hb7 HG.size;omega);replace hv10:=hv10.mono (Nat.le_trans hbw (Nat.le_trans hb7 HG.size));(try replace hD9:=hD9.later hg10);replace HG:=Yaa HG hg10;clear c11 z11 d0 d1 d2 d3 d4 d5 d6 d7;replace BXd:=BX7.later HG;have c11:=Yas BXd.st HC.out;have z11:=Ydw BXd.st 11;obtain ⟨d0,d1,d2,d3,d4,d5,d6,d7⟩:=Yal BXd.op))
  | (go_simp;go_at_call 77;go_must ((with_reducible refine (rput14 hD9 (Nat.le_trans (List.length_filter_le _ _) hlD) rp hv10).mono ?_);rintro e w11 ⟨v11,rfl,hD11,hg11⟩;replace hD11:=hD11.mono (Nat.le_trans hbw (Nat.le_trans hb7 HG.size)) (Nat.le_refl base);obtain ⟨ua,uc,hv11⟩:=hD11.form;obtain ⟨um,hum⟩:∃ q,(drpD (drpD lD x.off) rp++[(rp,Value.slice xa xn xc,sizN D kk)]).length=q:=⟨_,rfl⟩;rw [hum] at hv11;subst hv11;replace HG:=Yaa HG hg11;clear c11 z11 d0 d1 d2 d3 d4 d5 d6 d7;replace BXd:=BX7.later HG;have c11:=Yas BXd.st HC.out;have z11:=Ydw BXd.st 11;obtain ⟨d0,d1,d2,d3,d4,d5,d6,d7⟩:=Yal BXd.op)))
 all_goals (
  have hst11:=HMK7.out w11 ua um uc _ HG hD11 (fun t ht=>by
   rcases List.mem_append.1 ht with q|q
   ·exact HNF.out t (List.mem_filter.1 (List.mem_filter.1 q).1).1
   ·rw [List.mem_singleton.1 q];exact hnF10)
  rw [plainD_put,drpD_plain,HPL.out] at hst11
  exact HREST.out ra rm rc xa xn xc ua um uc _ _ (BXd.put 11 (.slice ua um uc)) (hst11.past (Yac w11 w.heap.size 11 (.slice ua um uc)) BXd.st Ybt))
end
end
section
theorem killL_snoc:∀ (l:List Nat) (S:MS) (x:Nat),killL S (l++[x])=Yed (killL S l) (x+32)
 | [],S,x=>rfl
 | y::r,S,x=>killL_snoc r (Yed S (y+32)) x
structure KlI (w:World) (F:Nat→Prop) (base all:Nat) (S:MS) (xs:List Nat) (a:Option Addr) (n c' k:Nat) (W:World):Prop where
 ex:∃ cs,W.heap[w.heap.size]?=some (.cells cs 36 (0,0))∧StIs W F base (.agg cs) all (killL S (xs.take k))
 rs:W.heap[w.heap.size+1]?=some (.cells sZ 36 (0,0))
 row:OwnW W base (.slice a n c') xs
 gr:w.grownBy W none
section
variable {w w' W:World} {F:Nat→Prop} {base all K c i:Nat} {v:Value} {S:MS} {x:OpM}
set_option maxHeartbeats 2000000 in
theorem rkill_not {c:Int} (h:StIs w F base v all S) (hc:¬ (0≤c∧c<8)) :
  Calls Tryz.prog 18 #[v,.int .i64 c] w fun e w'=>e=.returned v∧w.grownBy w' none:=by
 obtain ⟨cs,rfl,hs0,hs1,-,-⟩:=h.cells
 obtain ⟨b1,b2,hg⟩:=state_boxes (w:=w) cs
 obtain ⟨W0,hW0⟩:∃ W0,((w.alloc (.cells cs 36)).alloc (.cells sZ 36))=W0:=⟨_,rfl⟩
 rw [hW0] at b1 b2 hg
 unfold sZ at hW0
 clear h
 by_cases h1:c<0
 ·skip
  go_enter Tryz.func18,Tryz.ntmps18
  go_wp2_with (first
   | (refine Yad rfl 36 _ rfl _ 0 rfl b1 cs (fun j v hj=>by simpa using hj) _ Tryz.underlying36 rfl (by rw [Yai,hs0]) ?_)
   | (refine Yae rfl 36 _ _ rfl _ 0 rfl rfl b2 (by rw [hs0];exact Nat.le_refl _) (by rw [Yai,hs0]) hs1 ?_;intro W1 p1 g1;rw [Yau _ _ hs0] at p1))
  refine bodyPost_ret (results_cell_row rfl _ _ _ _ _ _ _ rfl p1 Tryz.underlying36 rfl (by rw [Yai,hs0])) rfl ?_
  exact ⟨rfl,Yaj hg g1 (fun i hi=>.inl (by injection hi with hi;omega))⟩
 ·have h2:7<c:=by omega
  go_enter Tryz.func18,Tryz.ntmps18
  go_wp2_with (first
   | (refine Yad rfl 36 _ rfl _ 0 rfl b1 cs (fun j v hj=>by simpa using hj) _ Tryz.underlying36 rfl (by rw [Yai,hs0]) ?_)
   | (refine Yae rfl 36 _ _ rfl _ 0 rfl rfl b2 (by rw [hs0];exact Nat.le_refl _) (by rw [Yai,hs0]) hs1 ?_;intro W1 p1 g1;rw [Yau _ _ hs0] at p1))
  refine bodyPost_ret (results_cell_row rfl _ _ _ _ _ _ _ rfl p1 Tryz.underlying36 rfl (by rw [Yai,hs0])) rfl ?_
  exact ⟨rfl,Yaj hg g1 (fun i hi=>.inl (by injection hi with hi;omega))⟩
set_option maxHeartbeats 4000000 in
theorem rkill14 (h:StIs w F base v all S) (hM:HM K S) (hK:K≤1000000) (hFb:∀ g,F g→g<w.heap.size) (hbw:base≤w.heap.size) (hc:c<8) :
  Calls Tryz.prog 18 #[v,.int .i64 c] w fun e w'=>∃ v',e=.returned v'∧StIs w' F base v' all (killM S c)∧w.grownBy w' none:=by
 obtain ⟨cs,rfl,hs0,hs1,-,hsl⟩:=h.cells
 obtain ⟨b1,b2,hg⟩:=state_boxes (w:=w) cs
 obtain ⟨W0,hW0⟩:∃ W0,((w.alloc (.cells cs 36)).alloc (.cells sZ 36))=W0:=⟨_,rfl⟩
 rw [hW0] at b1 b2 hg
 obtain ⟨ya,yn,yc,hyc,hyn,hyk⟩:=h.list hc
 have cy:=Yas b1 hyc
 obtain ⟨hnd,hmem⟩:=hM.hs.q.ls c hc
 obtain ⟨xs,exs⟩:∃ xs,S.L c=xs:=⟨_,rfl⟩
 rw [exs] at hyn hyk hnd hmem
 have hHk:∀ k,HM K (killL S (xs.take k)):=fun k=>killL_is _ hM (hnd.sublist (List.take_sublist _ _)) fun x hx=>by
  obtain ⟨b,k1,k2,k3⟩:=(hmem x).1 (List.mem_of_mem_take hx)
  exact ⟨b,k1,k2,by omega⟩
 have hfin:killM S c={ killL S (xs.take yn) with lv:=oth S.lv c false }:=by unfold killM;rw [exs,hyn,List.take_length]
 rw [hfin]
 have hlv:(killL S (xs.take yn)).lv=S.lv:=(killL_rest _ _).2.2
 have H0:KlI w F base all S xs ya yn yc 0 W0:=⟨⟨cs,b1,h.later hg⟩,b2,hyk.1.later hg,hg⟩
 have i3:¬ (c:Int)<0:=by omega
 have i4:¬ 7<(c:Int):=by omega
 have hn6:yn≤64:=by rw [hyn,← exs];exact hM.hs.lists hc
 have hxb:∀ x∈xs,x<4800:=fun x hx=>by
  obtain ⟨b,k1,k2,k3⟩:=(hmem x).1 hx
  have h1:=hM.hs.q.mem (Yb3.1 k1).1
  have h2:=hM.hs.q.top
  omega
 have HXB:=Lib.hid hxb
 have HHK:=Lib.hid hHk
 have HYN:=Lib.hid hyn
 have HLV:=Lib.hid hlv
 have H00:=Lib.hid H0
 unfold sZ at hW0
 clear h hM hnd hmem hHk hxb hfin hyk hyc hyn hlv H0 exs b1 b2 hg
 go_enter Tryz.func18,Tryz.ntmps18
 go_wp2
 clear hW0 cy
 go_loopw [6] (fun i wr=>∃ k:Nat,k≤yn∧i=.int .i64 k∧KlI w F base all S xs ya yn yc k wr) (fun i _=>yn - (intOf i).toNat)
 case atStart=>exact ⟨0,Nat.zero_le _,rfl,H00.out⟩
 case round =>
  obtain ⟨k,hk,rfl,HI⟩:=hrel
  by_cases h1:k<yn
  ·have h1':(k:Int)<(yn:Int):=by omega
   go_wp2
   obtain ⟨⟨cs9,p9,hst9⟩,q9,hrow,G9⟩:=HI
   obtain ⟨a9,c9,g9,e9,e10,e11⟩:=hrow.addr
   have hlk:k<xs.length:=by rw [← HYN.out];exact h1
   have e12:ya=some ⟨g9,0,none⟩:=by injection e9 with k1 k2 k3;rw [k1];exact e10 (by omega)
   have hgl:g9<wr.heap.size:=by rw [e12] at hrow;exact (World.ownsRow.lt hrow g9 rfl).2
   obtain ⟨x,hx⟩:∃ x,xs.getD k 0=x:=⟨_,rfl⟩
   have hxm:x∈xs:=by rw [← hx,List.getD_eq_getElem?_getD,List.getElem?_eq_getElem hlk];exact List.getElem_mem hlk
   have hx48:=HXB.out x hxm
   have hcell:∀ V,wr.grownBy V none→V.cell? ⟨g9,k,none⟩=some (.int .u64 (x:Nat)):=fun V hV=>by
    rw [← hx];exact e11 V (hrow.later hV) k hlk
   have htk:xs.take (k+1)=xs.take k++[x]:=by
    rw [List.take_succ_eq_append_getElem hlk,← hx,List.getD_eq_getElem?_getD,List.getElem?_eq_getElem hlk];rfl
   have hHM:=HHK.out k
   have HG:wr.grownBy wr.drew none:=Yah (Yag _ _)
   have hsz:=G9.size
   have hfr:=rfreed14 (hst9.later HG) hHM.hs.fine (by decide) (Nat.le_trans hHM.dn hK) (fun g k=>Nat.lt_of_lt_of_le (hFb g k) (Nat.le_trans hsz HG.size)) (Nat.le_trans hbw (Nat.le_trans hsz HG.size)) (x+32)
   obtain ⟨y,ey⟩:∃ y,x+32=y:=⟨_,rfl⟩
   rw [ey] at hfr
   have e32:IntKind.u64.wrap ((x:Int)+32)=(y:Nat):=by rw [IntKind.wrap_u64];omega
   have EY:=Lib.hid ey
   have hs9:=hst9.one
   have hcd:=hcell _ HG
   have p9d:wr.drew.heap[w.heap.size]?=some (.cells cs9 36 (0,0)):=p9
   have q9d:wr.drew.heap[w.heap.size+1]?=some (.cells sZ 36 (0,0)):=q9
   obtain ⟨cur,hcur⟩:=Ycn (g:=g9) (hrow.mono (Nat.zero_le _)) (by rw [e12];rfl)
   have hcurd:wr.drew.heap[g9]?=some (.cells cur 26 (0,0)):=hcur
   have hgs:g9≠w.heap.size:=Ybu hcur p9 (by decide)
   have hrowd:=hrow.later HG
   have G9d:=Yaa G9 HG
   have HCELL:=Lib.hid hcell
   clear ey
   have HST:=Lib.hid hst9
   have HTK:=Lib.hid htk
   clear e9 e10 e11 hcell hst9 hx hxm htk hHM hcur
   subst e12
   refine wp_region_held_drew (S:=fun V=>V.cell? ⟨g9,k,none⟩=some (.int .u64 (x:Nat))) (by kernel_rfl) hcd (fun hHeld=>?_)
   refine hY 1 26 (v:=?_) rfl rfl hHeld ?y1 ?r1
   case y1=>(intro w hSw;(try dsimp only at hSw);go_simp;try (with_reducible rfl))
   case r1 =>
   simp only [Act.put,List.setIfInBounds_toArray,List.set_cons_zero,List.set_cons_succ]
   refine hY 2 27 (v:=?_) rfl rfl hHeld ?y2 ?r2
   case y2=>(intro w hSw;(try dsimp only at hSw);go_simp;try (with_reducible rfl))
   case r2 =>
   simp only [Act.put,List.setIfInBounds_toArray,List.set_cons_zero,List.set_cons_succ]
   refine hY 3 28 (v:=?_) rfl rfl hHeld ?y3 ?r3
   case y3=>(intro w hSw;(try dsimp only at hSw);go_simp;try (with_reducible rfl))
   case r3 =>
   simp only [Act.put,List.setIfInBounds_toArray,List.set_cons_zero,List.set_cons_succ]
   refine hY 4 29 (v:=?_) rfl rfl hHeld ?y4 ?r4
   case y4=>(intro w hSw;(try dsimp only at hSw);go_simp;try (with_reducible rfl))
   case r4 =>
   simp only [Act.put,List.setIfInBounds_toArray,List.set_cons_zero,List.set_cons_succ]
   refine hY 5 30 (v:=?_) rfl rfl hHeld ?y5 ?r5
   case y5=>(intro w hSw;(try dsimp only at hSw);go_simp;try (with_reducible rfl))
   case r5 =>
   simp only [Act.put,List.setIfInBounds_toArray,List.set_cons_zero,List.set_cons_succ]
   refine wpAnyH_ready (rs:=[0]) (by kernel_rfl) (by simp) (AllReadyH.cons rfl (fun K hK=>?_) AllReadyH.nil)
   refine step_load_row rfl 36 _ rfl _ 0 rfl p9d cs9 (fun j v hj=>by simpa using hj) _ Tryz.underlying36 rfl (by rw [Yai,hs9.1]) ?_
   refine hK.out _ _ hcd (fun hHeld=>?_)
   clear hK K
   simp only [Act.put,List.setIfInBounds_toArray,List.set_cons_zero,List.set_cons_succ]
   refine wpAnyH_ready (rs:=[6]) (by kernel_rfl) (by simp) (AllReadyH.cons rfl (fun K hK=>?_) AllReadyH.nil)
   clear hHeld
   go_simp
   (go_at_call 41;(with_reducible refine hfr.mono ?_);rintro e w5 ⟨v5,rfl,hst5,hg5⟩)
   obtain ⟨cs5,rfl,t0,t1,-,-⟩:=hst5.cells
   have p5:=(hg5.block _ (lt_of_block p9d) (by simp)).trans p9d
   have hc5:=HCELL.out _ (Yaa HG hg5)
   refine hK.out _ _ hc5 (fun hHeld=>?_)
   clear hK K
   try simp only [Act.put,List.setIfInBounds_toArray,List.set_cons_zero,List.set_cons_succ]
   refine wpAnyH_ready (rs:=[7]) (by kernel_rfl) (by simp) (AllReadyH.cons rfl (fun K hK=>?_) AllReadyH.nil)
   refine Ybe rfl 36 _ _ rfl _ 0 rfl rfl p5 (by rw [t0,hs9.1];exact Nat.le_refl _) (by rw [Yai,t0]) t1 ?_
   intro W1 p1 g1
   rw [Yau _ _ (by rw [t0,hs9.1])] at p1
   have hcu5:=(hg5.block _ (lt_of_block hcurd) (by simp)).trans hcurd
   have hS1:W1.cell? ⟨g9,k,none⟩=some (.int .u64 (x:Nat)):=(World.cell?_of_block (w:=w5) (a:=⟨g9,k,none⟩) (g1.block _ (lt_of_block hcu5) (by simpa using hgs))).trans hc5
   refine hK.out _ _ hS1 (fun hHeld=>?_)
   clear hK K
   try simp only [Act.put,List.setIfInBounds_toArray,List.set_cons_zero,List.set_cons_succ]
   refine wpAnyH_done (by kernel_rfl) ?_ _
   go_wp2
   go_roundw
   case rel =>
    refine ⟨k+1,by omega,by go_num,⟨⟨cs5,p1,?_⟩,?_,?_,?_⟩⟩
    ·rw [HTK.out,killL_snoc,EY.out];exact hst5.past g1 p5 Ybt
    ·exact (g1.block _ (lt_of_block ((hg5.block _ (lt_of_block q9d) (by simp)).trans q9d)) (by simp)).trans ((hg5.block _ (lt_of_block q9d) (by simp)).trans q9d)
    ·exact Ya8 (hrowd.later hg5) g1 p5 (by decide)
    ·exact Yaj (Yaa G9d hg5) g1 (fun i hi=>.inl (by injection hi with hi;omega))
   case measure=>simp [intOf];omega
  ·obtain rfl:k=yn:=by omega
   have h1':¬ (k:Int)<(k:Int):=by omega
   obtain ⟨⟨cs9,p9,hst9⟩,q9,hrow,G9⟩:=HI
   obtain ⟨t0,t1,-,hl9⟩:=hst9.one
   have cl:=Yas p9 (hl9 c hc)
   have zl:=Ydw p9 (13+c)
   have g10:=Yac wr w.heap.size (13+c) (.bool false)
   have p10:=Yb7 (k:=13+c) (v:=.bool false) p9
   have q10:=(g10.block _ (lt_of_block q9) (by simp)).trans q9
   have hst10:=(hst9.past g10 p9 Ybt).lives hc false
   rw [HLV.out] at hst10
   have G10:=Yaj G9 g10 (fun i hi=>.inl (by injection hi with hi;omega))
   obtain ⟨cs10,ecs⟩:∃ q,cs9.setIfInBounds (13+c) (.bool false)=q:=⟨_,rfl⟩
   obtain ⟨W10,hW10⟩:∃ W10,wr.setCell ⟨w.heap.size,13+c,none⟩ (.bool false)=W10:=⟨_,rfl⟩
   rw [ecs] at p10 hst10
   rw [hW10] at p10 q10 hst10 G10
   obtain ⟨u0,u1,-,-⟩:=hst10.one
   clear hst9 hl9 ecs g10 hrow
   go_wp2_with (first
    | (refine Yad rfl 36 _ rfl _ 0 rfl p10 cs10 (fun j v hj=>by simpa using hj) _ Tryz.underlying36 rfl (by rw [Yai,u0]) ?_)
    | (refine Yae rfl 36 _ _ rfl _ 0 rfl rfl q10 (by rw [u0];exact Nat.le_refl _) (by rw [Yai,u0]) u1 ?_;intro W11 p11 g11;rw [Yau _ _ u0] at p11))
   refine bodyPost_ret (results_cell_row rfl _ _ _ _ _ _ _ rfl p11 Tryz.underlying36 rfl (by rw [Yai,u0])) rfl ?_
   exact ⟨_,rfl,hst10.past g11 q10 Ybt,Yaj G10 g11 (fun i hi=>.inl (by injection hi with hi;omega))⟩
end
end
section
def OwnBk (w:World) (bo bi:Nat) (v:Value) (l:List KB):Prop:=w.ownsRow bo 83 6 v l.length (Ybv l)∧∀ x∈l,OwnW w bi (kv x) x.d
section
variable {w w':World} {bo bi:Nat} {v:Value} {l:List KB}
theorem OwnBk.later (h:OwnBk w bo bi v l) (hg:w.grownBy w' none):OwnBk w' bo bi v l:=⟨Ydm h.1 hg,fun t ht=>(h.2 t ht).later hg⟩
theorem OwnBk.form (h:OwnBk w bo bi v l):∃ a c,v=.slice a l.length c:=by
 rcases h.1.2 with ⟨h1,h2⟩|⟨g,cap,cur,hv,_⟩
 ·exact ⟨none,0,by rw [h1,h2]⟩
 ·exact ⟨_,cap,hv⟩
theorem OwnBk.new {g:Nat} (h:OwnBk w bo bi v l) (hg:v.ownBlock=some g):bo≤g:=(World.ownsRow.lt h.1 g hg).1
end
theorem cellsK_app (a b:List KB):Ybv (a++b)=Ybv a++Ybv b:=by unfold Ybv;rw [List.flatMap_append]
theorem info_bk14:(Tryz.prog.info? 83).map (fun i=>(i.zero,i.size,i.bytes))=some (some (.agg #[.int .u64 0,.int .u64 0,.bool false,.int .i64 0,.int .u64 0,.slice none 0 0]),6,64):=by kernel_rfl
theorem wpList_append_bk {w2:World} {bo bi:Nat} {l:List KB} {v:Value} (hown:OwnBk w2 bo bi v l) (hn:l.length≤1000000) (hbase:bo≤w2.heap.size) (z:KB) (hd:OwnW w2 bi (kv z) z.d)
  {ops:Array Oper} {rest:List Oper} {o:Oper} {a:Act} {Q:Exit→Act→World→Prop} (hgd:o.guard=none) (s x:Operand)
  (ho:o.op=.call { callee:=.builtin .append,args:=#[s,x],argTypes:=#[72,72] })
  (hs:a.eval s=v) (hx:a.eval x=.slice (some ⟨w2.heap.size,0,none⟩) 1 1)
  (h:∀ v' w',OwnBk w' bo bi v' (l++[z])→w2.grownBy w' v.ownBlock→wpList Tryz.prog ops Q rest (a.put o.dst v') w') :
  wpList Tryz.prog ops Q (o::rest) a (w2.alloc (.cells #[.int .u64 (z.b.off:Nat),.int .u64 (z.b.s:Nat),.bool z.b.u,.int .i64 z.b.o,.int .u64 (z.b.n:Nat),.slice z.a z.m z.c] 83)):=by
 obtain ⟨i0,hi,hz0,hz1,hz2⟩:=info_parts info_bk14
 have hlit:=Yab w2 (.cells #[.int .u64 (z.b.off:Nat),.int .u64 (z.b.s:Nat),.bool z.b.u,.int .i64 z.b.o,.int .u64 (z.b.n:Nat),.slice z.a z.m z.c] 83)
 refine wpList_append_own_at _ hgd s x 72 ho bo 83 i0 (.agg #[.int .u64 0,.int .u64 0,.bool false,.int .i64 0,.int .u64 0,.slice none 0 0]) 6 64 Tryz.underlying72 hi hz0 hz1 hz2 rfl (by decide) v l.length (Ybv l) hs (World.ownsRow.alloc hown.1 _) ⟨w2.heap.size,0,none⟩ 1 1 z.cel hx (by rw [KB.cel_len]) (fun j u hj=>?_) z.cel_one (by unfold maxLen;omega) (by omega) (by rw [World.size_alloc];omega) fun v' w' h1 h2 _ _=>?_
 ·have hadd:(⟨w2.heap.size,0,none⟩:Addr).add j=⟨w2.heap.size,j,none⟩:=by unfold Addr.add;split <;> simp_all
  rw [hadd]
  exact Yas hlit (by unfold KB.cel at hj;simpa using hj)
 have hg2:w2.grownBy w' v.ownBlock:=Yaa (World.grownBy_alloc _ _ _) h2
 have hkeep:∀ {u:Value} {xs:List Nat},OwnW w2 bi u xs→OwnW w' bi u xs:=fun {u xs} hu=>by
  refine World.ownsRow.kept hu hg2 ?_
  by_cases e:u.ownBlock=none
  ·exact .inl e
  ·refine .inr fun e2=>?_
   obtain ⟨g,hg⟩:=Option.ne_none_iff_exists'.1 e
   obtain ⟨_,_,c,fr,hb⟩:=own_row64 hu hg
   rw [e2] at hg
   obtain ⟨_,cur,hb2⟩:=Yct hown.1 hg
   rw [hb2] at hb
   injection hb with hb
   injection hb with _ hb _
   exact absurd hb (by decide)
 refine h v' w' ⟨?_,fun t ht=>?_⟩ hg2
 ·rw [cellsK_app,List.length_append]
  have e1:Ybv [z]=z.cel:=by unfold Ybv;simp
  rw [e1]
  exact h1
 ·rcases List.mem_append.1 ht with ht|ht
  ·exact hkeep (hown.2 t ht)
  ·rw [List.mem_singleton.1 ht];exact hkeep hd
end
end Go.Proofs.YtfhiljglfhekdaaGreat
