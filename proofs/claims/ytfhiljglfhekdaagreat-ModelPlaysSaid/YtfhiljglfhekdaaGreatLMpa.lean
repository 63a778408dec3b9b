/-
  Texts of one layer, one behind the other: memory, contracts of the functions, and what follows of them.
  Conditions: as each theorem says.
-/
import Derived.Test.YtfhiljglfhekdaaGreatLMoa
import Derived.Deep.RegionHeld3
import Derived.Test.YtfhiljglfhekdaaGreatLMob
set_option linter.unusedVariables false
set_option linter.unusedSimpArgs false
set_option maxRecDepth 100000
namespace Go.Proofs.YtfhiljglfhekdaaGreat
open Go.RowKit
section
set_option maxHeartbeats 4000000 in
theorem rresize12_none {w:World} {base:Nat} {v:Value} {E:Nat} {bs:List Blk} {L:Nat→List Nat} (h:HvIs w base v E bs L) (hlen:bs.length≤1000) {p:Nat} (hpl:fstN (pF p) bs=none) (n:Nat) :
  Calls Tryz.prog 84 #[v,.int .u64 p,.int .u64 n] w fun e w'=>e=.returned (.tuple #[v,.int .u64 0,.int .i64 4])∧w.grownBy w' none:=by
 have hplace:=fun (V:World) (hg:w.grownBy V none)=>Ybp (h.later hg) (by omega) p
 have hz:fstZ (pF p) bs = -1:=by unfold fstZ;rw [hpl]
 rw [hz] at hplace
 obtain ⟨la,c,va,ln,vc,rfl,hb⟩:=h.lie
 obtain ⟨N,hN⟩:∃ N,bs.length=N:=⟨_,rfl⟩
 unfold Ya1 at hplace ⊢
 rw [hN] at hplace ⊢
 clear hN hb h hz hpl hlen
 go_enter Tryz.func84,Tryz.ntmps84
 go_wp2_with (first
  | (go_at_call 100;((with_reducible refine (hplace _ (Yaa (World.grownBy_alloc _ _ _) (World.grownBy_alloc _ _ _))).mono ?_);rintro e w1 ⟨rfl,hg1⟩;obtain ⟨hx1,hr1,hG1⟩:=Ydj hg1;obtain ⟨⟨a0,a1,a2,a3,a4,a5,a6,a7,a8,a9⟩,_⟩:=Yaq hx1;obtain ⟨⟨r0,r1,r2,r3,r4,r5,r6,r7,r8,r9⟩,rf⟩:=Yaq hr1;have rf0:=rf 0 (by decide);have rf1:=rf 1 (by decide);have rf2:=rf 2 (by decide);have rf3:=rf 3 (by decide);have rf4:=rf 4 (by decide);have rf5:=rf 5 (by decide);have rf6:=rf 6 (by decide);have rf7:=rf 7 (by decide);have rf8:=rf 8 (by decide);have rf9:=rf 9 (by decide);clear rf)))
 obtain ⟨P11,Q11⟩:=Yb8 (E:=E) (la:=la) (n:=N) (c:=c) (va:=va) (ln:=ln) (vc:=vc) hr1
 obtain ⟨W11,hW11⟩:∃ W11,Ycx w1 (w.heap.size+1) E la N c va ln vc=W11:=⟨_,rfl⟩
 unfold Ycx at hW11 P11 Q11
 rw [hW11] at P11 Q11 ⊢
 obtain ⟨⟨b0,b1,b2,b3,b4,b5,b6,b7,b8,b9⟩,_⟩:=Yaq P11
 refine bodyPost_ret (v:=.tuple #[Ya1 E (.slice la N c) (fun c=>.slice (va c) (ln c) (vc c)),.int .u64 0,.int .i64 4]) (by simp [results,Tryz.results84,go_sem,Ya1,b0,b1,b2,b3,b4,b5,b6,b7,b8,b9]) rfl ?_
 exact ⟨rfl,Yap (Yaa (Yam hG1 _) Q11) (Nat.le_succ _)⟩
set_option maxHeartbeats 4000000 in
theorem rresize12_size {w:World} {base:Nat} {v:Value} {E:Nat} {bs:List Blk} {L:Nat→List Nat} (h:HvIs w base v E bs L) (hlen:bs.length≤1000) {p i:Nat} (hpl:fstN (pF p) bs=some i) {n:Nat} (hn64:n<18446744073709551616) (hn:18446744073709551616≤n+55) :
  Calls Tryz.prog 84 #[v,.int .u64 p,.int .u64 n] w fun e w'=>e=.returned (.tuple #[v,.int .u64 0,.int .i64 2])∧w.grownBy w' none:=by
 have hplace:=fun (V:World) (hg:w.grownBy V none)=>Ybp (h.later hg) (by omega) p
 have hz:fstZ (pF p) bs=(i:Nat):=by unfold fstZ;rw [hpl]
 rw [hz] at hplace
 have hnd:=rneed_high n hn64 hn
 have i1:¬ (i:Int)<0:=by omega
 obtain ⟨la,c,va,ln,vc,rfl,hb⟩:=h.lie
 obtain ⟨N,hN⟩:∃ N,bs.length=N:=⟨_,rfl⟩
 unfold Ya1 at hplace ⊢
 rw [hN] at hplace ⊢
 clear hN hb h hz hpl hlen hn hn64
 go_enter Tryz.func84,Tryz.ntmps84
 go_wp2_with (first
  | (go_at_call 100;((with_reducible refine (hplace _ (Yaa (World.grownBy_alloc _ _ _) (World.grownBy_alloc _ _ _))).mono ?_);rintro e w1 ⟨rfl,hg1⟩;obtain ⟨hx1,hr1,hG1⟩:=Ydj hg1;obtain ⟨⟨a0,a1,a2,a3,a4,a5,a6,a7,a8,a9⟩,_⟩:=Yaq hx1;obtain ⟨⟨r0,r1,r2,r3,r4,r5,r6,r7,r8,r9⟩,rf⟩:=Yaq hr1;have rf0:=rf 0 (by decide);have rf1:=rf 1 (by decide);have rf2:=rf 2 (by decide);have rf3:=rf 3 (by decide);have rf4:=rf 4 (by decide);have rf5:=rf 5 (by decide);have rf6:=rf 6 (by decide);have rf7:=rf 7 (by decide);have rf8:=rf 8 (by decide);have rf9:=rf 9 (by decide);clear rf))
  | (go_at_call 19;((with_reducible refine (hnd _).mono ?_);rintro e w2 ⟨rfl,rfl⟩)))
 obtain ⟨P11,Q11⟩:=Yb8 (E:=E) (la:=la) (n:=N) (c:=c) (va:=va) (ln:=ln) (vc:=vc) hr1
 obtain ⟨W11,hW11⟩:∃ W11,Ycx w1 (w.heap.size+1) E la N c va ln vc=W11:=⟨_,rfl⟩
 unfold Ycx at hW11 P11 Q11
 rw [hW11] at P11 Q11 ⊢
 obtain ⟨⟨b0,b1,b2,b3,b4,b5,b6,b7,b8,b9⟩,_⟩:=Yaq P11
 refine bodyPost_ret (v:=.tuple #[Ya1 E (.slice la N c) (fun c=>.slice (va c) (ln c) (vc c)),.int .u64 0,.int .i64 2]) (by simp [results,Tryz.results84,go_sem,Ya1,b0,b1,b2,b3,b4,b5,b6,b7,b8,b9]) rfl ?_
 exact ⟨rfl,Yap (Yaa (Yam hG1 _) Q11) (Nat.le_succ _)⟩
set_option maxHeartbeats 16000000 in
theorem rresize12_inF {w:World} {F0:Nat→Prop} {base K:Nat} {v:Value} {E:Nat} {A C:List Blk} {q:Blk} {L:Nat→List Nat} (h:Fine K E (A++q::C) L) (hK:K≤800) (hR:∀ g,F0 g→g<w.heap.size) (hv:HvF w F0 base v E (A++q::C) L) (hbw:base≤w.heap.size) {p n:Nat} (hpl:fstN (pF p) (A++q::C)=some A.length) (hn:n+55<18446744073709551616) (hnd':Yat n≤q.s) :
  Calls Tryz.prog 84 #[v,.int .u64 p,.int .u64 n] w fun e w'=>∃ v',e=.returned (.tuple #[v',.int .u64 p,.int .i64 0])∧HvF w' F0 base v' E (ctB (A++⟨q.off,q.s,q.u,q.o,n⟩::C) p (Yat n)) L∧w.grownBy w' none:=by
 have hfine:Fine K E (A++⟨q.off,q.s,q.u,q.o,n⟩::C) L:=h.relen (by have:=need_bounds n;omega)
 have hlen:=h.few
 have hk64:Yat n<18446744073709551616:=by have:=h.is q (by simp);have:=h.low;omega
 have hct:=fun (V:World) (v:Value) (h2:∀ g,F0 g→g<V.heap.size) (h3:HvF V F0 base v E (A++⟨q.off,q.s,q.u,q.o,n⟩::C) L) (h4:base≤V.heap.size)=>ct_fineF hfine hK h2 h3 h4 p (Yat n) hk64
 have hplace:=fun (V:World) (hg:w.grownBy V none)=>Ybp (hv.later hg).is (by omega) p
 obtain ⟨i,hi⟩:∃ i,A.length=i:=⟨_,rfl⟩
 have hz:fstZ (pF p) (A++q::C)=(i:Nat):=by unfold fstZ;rw [hpl,hi]
 rw [hz] at hplace
 have hnd:=Ycw n hn
 obtain ⟨nd,end'⟩:∃ nd,Yat n=nd:=⟨_,rfl⟩
 rw [end'] at hct hnd hnd' ⊢
 obtain ⟨la,N,c,va,ln,vc,rfl,hN⟩:=hv.lie
 have hiN:i<N:=by rw [← hN,← hi];simp
 have hqi:(A++q::C).getD i default=q:=by rw [← hi,List.getD_eq_getElem?_getD,List.getElem?_append_right (Nat.le_refl _),Nat.sub_self];rfl
 have hb:Yb0 w la (A++q::C):=by
  obtain ⟨b0,vs0,e0,o0,_⟩:=hv
  have q1:=heapV_blk e0
  rw [← q1] at o0
  exact own_at o0
 obtain ⟨bb,off,rfl,hbb,hcs⟩:=hb.cells (by rw [hN];omega)
 obtain ⟨q0,q1,q2,q3,q4⟩:=q
 simp only at hnd' hct ⊢
 have hcell:∀ V:World,w.grownBy V none→V.cell? ⟨bb,off+i*5+1,none⟩=some (.int .u64 (q1:Nat)):=fun V hg=>by
  obtain ⟨b',off',e,_,hc'⟩:=(hb.later hg).cells (by rw [hN];omega)
  injection e with e
  injection e with e1 e2
  subst e1 e2
  have:=(hc' i (by rw [hN];omega)).2.1
  unfold gS at this
  rw [hqi] at this
  exact this
 obtain ⟨bs2,hbs2⟩:∃ bs2,ctB (A++⟨q0,q1,q2,q3,n⟩::C) p nd=bs2:=⟨_,rfl⟩
 obtain ⟨ce,hce⟩:∃ ce,ctE (A++⟨q0,q1,q2,q3,n⟩::C) p nd=ce:=⟨_,rfl⟩
 rw [hbs2] at hct ⊢
 rw [hce] at hct
 have i1:¬ (i:Int)<0:=by omega
 have i2:(i:Int)<(N:Int):=by omega
 have i3:(nd:Int)≤(q1:Int):=by omega
 have HBL:=Lib.hid (fun (V:World) (hg:w.grownBy V none)=>hb.later hg)
 have HN:=Lib.hid hN
 have HI:=Lib.hid hi
 have HQI:=Lib.hid hqi
 have HV:=Lib.hid hv
 have HCT:=Lib.hid hct
 have HCL:=Lib.hid hcell
 have HR:=Lib.hid hR
 have hN0:0+N≤1000000:=by omega
 unfold Ya1 at hplace ⊢
 clear hct hN hi hqi hv hb hz hpl hcs h hfine hlen hk64 end' hcell hbs2 hce hnd' hR hn
 go_enter Tryz.func84,Tryz.ntmps84
 go_wp2_with (first
  | (go_at_call 100;((with_reducible refine (hplace _ (Yaa (World.grownBy_alloc _ _ _) (World.grownBy_alloc _ _ _))).mono ?_);rintro e w1 ⟨rfl,hg1⟩;obtain ⟨hx1,hr1,hG1⟩:=Ydj hg1;have X2:=fr_start hg1;have s1:=HCL.out _ hG1;obtain ⟨⟨x0,x1,x2,x3,x4,x5,x6,x7,x8,x9⟩,_⟩:=Yaq hx1;obtain ⟨⟨y0,y1,y2,y3,y4,y5,y6,y7,y8,y9⟩,_⟩:=Yaq X2.hbx))
  | (go_at_call 19;((with_reducible refine (hnd _).mono ?_);rintro e w2 ⟨rfl,rfl⟩))
  | (at_builtin;go_must (refine Yao X2.own (HBL.out _ X2.since) rfl HN.out hN0 X2.lo.2.2.2.2.2.2 rfl _ _ rfl rfl rfl ?_);intro v5 w5 ho5 hg5 _;have X5:=X2.row ho5 hg5;obtain ⟨g,c5,hv5,hbg,hgw,hfz,hat⟩:=ho5.spot (by rw [List.nil_append,HN.out];omega);rw [List.nil_append,HN.out] at hv5;subst hv5;obtain ⟨z0,z1,z2,z3,z4⟩:=hat i (by rw [List.nil_append,HN.out];exact hiN);unfold gO at z0;unfold gS at z1;unfold gU at z2;unfold gW at z3;unfold gN at z4;rw [List.nil_append,HQI.out] at z0 z1 z2 z3 z4;simp only at z0 z1 z2 z3 z4;have f5:=hfz (i*5);have f6:=hfz (i*5+1);have f7:=hfz (i*5+2);have f8:=hfz (i*5+3);have f9:=hfz (i*5+4);have X6:=(X5.row (ownB_put (C:=C) ⟨q0,q1,q2,q3,n⟩ X5.own HN.out HI.out) (Yd3 _ _ _ _ _ _ _ _)).later (World.grownBy_alloc _ (.cells #[.int .u64 q0,.int .u64 q1,.bool q2,.int .i64 q3,.int .u64 n] 81) none);have y6:=(Yaq X6.hbx).1;have kf1:=(Yaq X6.hbx).2 1 (by decide);have X8:=X6.heap (hcs':=hC E (some ⟨g,0,none⟩) N c5 va ln vc) (Yac _ _ 1 (.slice (some ⟨g,0,none⟩) N c5)) (by rw [Yar X6.hbx _];rfl);obtain ⟨⟨a0,a1,a2,a3,a4,a5,a6,a7,a8,a9⟩,_⟩:=Yaq X8.hbx;have V8:=(HV.out.later X8.since).swap (X8.own.mono (Nat.le_trans hbw X8.lo.2.2.2.2.2.1));simp only [Ya1] at V8;clear hat hfz x0 x1 x2 x3 x4 x5 x6 x7 x8 x9 s1)
  | (go_at_call 108;((with_reducible refine (HCT.out _ _ (fun g' e=>Nat.lt_of_lt_of_le (HR.out g' e) X8.since.size) V8 (Nat.le_trans hbw X8.since.size)).mono ?_);rintro e w9 ⟨v9,rfl,V9,hg9⟩;obtain ⟨l9,n9,c9,va9,ln9,vc9,hv9,_⟩:=V9.lie;subst hv9;simp only [Ya1] at V9 ⊢;have ga9:=World.grownBy_alloc w9 (.cells (hC E l9 n9 c9 va9 ln9 vc9) 31) none;have X9:=X8.later (Yaa hg9 ga9);obtain ⟨⟨k0,k1,k2,k3,k4,k5,k6,k7,k8,k9⟩,_⟩:=Yaq (Yab w9 (.cells (hC E l9 n9 c9 va9 ln9 vc9) 31));obtain ⟨⟨r0,r1,r2,r3,r4,r5,r6,r7,r8,r9⟩,rf⟩:=Yaq X9.rbx;have rf0:=rf 0 (by decide);have rf1:=rf 1 (by decide);have rf2:=rf 2 (by decide);have rf3:=rf 3 (by decide);have rf4:=rf 4 (by decide);have rf5:=rf 5 (by decide);have rf6:=rf 6 (by decide);have rf7:=rf 7 (by decide);have rf8:=rf 8 (by decide);have rf9:=rf 9 (by decide);clear rf)))
 obtain ⟨P11,Q11⟩:=Yb8 (E:=E) (la:=l9) (n:=n9) (c:=c9) (va:=va9) (ln:=ln9) (vc:=vc9) X9.rbx
 obtain ⟨W11,hW11⟩:∃ W11,Ycx (w9.alloc (.cells (hC E l9 n9 c9 va9 ln9 vc9) 31)) (w.heap.size+1) E l9 n9 c9 va9 ln9 vc9=W11:=⟨_,rfl⟩
 unfold Ycx at hW11 P11 Q11
 rw [hW11] at P11 Q11 ⊢
 obtain ⟨⟨b0,b1,b2,b3,b4,b5,b6,b7,b8,b9⟩,_⟩:=Yaq P11
 refine bodyPost_ret (v:=.tuple #[Ya1 E (.slice l9 n9 c9) (fun c=>.slice (va9 c) (ln9 c) (vc9 c)),.int .u64 p,.int .i64 0]) (by simp [results,Tryz.results84,go_sem,Ya1,b0,b1,b2,b3,b4,b5,b6,b7,b8,b9]) rfl ?_
 exact ⟨_,rfl,(V9.later ga9).other X9.rbx (by decide) (by decide) Q11,Yap (Yaa (Yam X9.since _) Q11) (Nat.le_succ _)⟩
set_option maxHeartbeats 16000000 in
theorem rresize12_badF {w:World} {F0:Nat→Prop} {base K:Nat} {v:Value} {E:Nat} {bs:List Blk} {L:Nat→List Nat} (h:Fine K E bs L) (hK:K≤700) (hR:∀ g,F0 g→g<w.heap.size) (hv:HvF w F0 base v E bs L) (hbw:base≤w.heap.size) {p n i:Nat} (hpl:fstN (pF p) bs=some i) (hn:n≤18446744073709551560) (hnd':gS bs i<Yat n) (hfit:fitM bs n 16=none) :
  Calls Tryz.prog 84 #[v,.int .u64 p,.int .u64 n] w fun e w'=>e=.returned (.tuple #[v,.int .u64 0,.int .i64 3])∧HvF w' F0 base v E bs L∧w.grownBy w' none:=by
 have hlen:=h.few
 have hi:=(pF_some hpl).1
 have hm:=may_bounds (h.is _ (getB_mem hi)).1
 obtain ⟨on,hoi⟩:∃ on:Nat,gW bs i=(on:Int):=Int.eq_ofNat_of_zero_le hm.2.2.2.1
 have how:on≤8:=by
  have:=hm.2.2.2.2.1
  unfold gW at hoi
  omega
 have htk:=fun (V:World) (hg:w.grownBy V none)=>tk_fineF (owner:=on) h (by omega) (fun g e=>Nat.lt_of_lt_of_le (hR g e) hg.size) (hv.later hg) (Nat.le_trans hbw hg.size) (.inl rfl:Ybr 16) hn how
 have e1:tkP bs n 16=0:=by unfold tkP;rw [hfit]
 have e2:tkE bs n 16=3:=by unfold tkE;rw [hfit]
 rw [e1,e2] at htk
 have hplace:=fun (V:World) (hg:w.grownBy V none)=>Ybp (hv.later hg).is (by omega) p
 have hz:fstZ (pF p) bs=(i:Nat):=by unfold fstZ;rw [hpl]
 rw [hz] at hplace
 have hnd:=Ycw n (by omega)
 obtain ⟨nd,end'⟩:∃ nd,Yat n=nd:=⟨_,rfl⟩
 rw [end'] at hnd hnd'
 obtain ⟨la,N,c,va,ln,vc,rfl,hN⟩:=hv.lie
 have hb:Yb0 w la bs:=by
  obtain ⟨b0,vs0,e0,o0,_⟩:=hv
  have q1:=heapV_blk e0
  rw [← q1] at o0
  exact own_at o0
 obtain ⟨bb,off,rfl,hbb,hcs⟩:=hb.cells (by omega)
 obtain ⟨sz,hsz⟩:∃ sz,gS bs i=sz:=⟨_,rfl⟩
 have hcell:∀ V:World,w.grownBy V none→V.cell? ⟨bb,off+i*5+1,none⟩=some (.int .u64 (sz:Nat))∧V.cell? ⟨bb,off+i*5+3,none⟩=some (.int .i64 (on:Nat)):=fun V hg=>by
  obtain ⟨b',off',e,_,hc'⟩:=(hb.later hg).cells (by omega)
  injection e with e
  injection e with e1 e2
  subst e1 e2
  obtain ⟨_,a1,_,a3,_⟩:=hc' i hi
  rw [hsz] at a1
  rw [hoi] at a3
  exact ⟨a1,a3⟩
 rw [hsz] at hnd'
 rw [hN] at hi
 have i1:¬ (i:Int)<0:=by omega
 have i2:(i:Int)<(N:Int):=by omega
 have i3:¬ (nd:Int)≤(sz:Int):=by omega
 have HV:=Lib.hid hv
 have HCL:=Lib.hid hcell
 replace htk:∀ V:World,w.grownBy V none→Calls Tryz.prog 76 #[.agg (hC E (some ⟨bb,off,none⟩) N c va ln vc),.int .i64 on,.int .u64 n,.int .u64 16] V fun e w'=>∃ v',e=.returned (.tuple #[v',.int .u64 0,.int .i64 3])∧HvF w' F0 base v' E (tkB bs on n 16) (tkL bs L on n 16)∧V.grownBy w' none:=htk
 unfold Ya1 at hplace ⊢
 clear hN hv hb hz hpl hcs h hlen hcell hnd' hR hn hm hoi how hsz hfit end' hi
 go_enter Tryz.func84,Tryz.ntmps84
 go_wp2_with (first
  | (go_at_call 100;((with_reducible refine (hplace _ (Yaa (World.grownBy_alloc _ _ _) (World.grownBy_alloc _ _ _))).mono ?_);rintro e w1 ⟨rfl,hg1⟩;obtain ⟨hx1,hr1,hG1⟩:=Ydj hg1;obtain ⟨s1,s3⟩:=HCL.out _ hG1;obtain ⟨⟨x0,x1,x2,x3,x4,x5,x6,x7,x8,x9⟩,_⟩:=Yaq hx1))
  | (go_at_call 19;((with_reducible refine (hnd _).mono ?_);rintro e w2 ⟨rfl,rfl⟩)))
 have hcell2:∀ {V:World},w1.grownBy V none→at10 w.heap.size E (some ⟨bb,off,none⟩) N c va ln vc V∧V.cell? ⟨bb,off+i*5+3,none⟩=some (.int .i64 on):=fun {V} hg=>⟨at10_of ((hg.block _ (lt_of_block hx1) (by simp)).trans hx1),(HCL.out _ (Yaa hG1 hg)).2⟩
 clear x0 x1 x2 x3 x4 x5 x6 x7 x8 x9 s1 s3
 have HG:w1.grownBy w1.drew none:=Yah (Yag _ _)
 obtain ⟨⟨x0,x1,x2,x3,x4,x5,x6,x7,x8,x9⟩,s3⟩:=hcell2 HG
 have hz:=fun (V:World)=>World.grownBy_alloc V (.cells hZ 31) none
 have HD:w1.grownBy (w1.alloc (.cells hZ 31)).drew none:=Yah (hz w1)
 have KBD:(w1.alloc (.cells hZ 31)).drew.heap[w1.heap.size]?=some (.cells hZ 31 (0,0)):=Yab w1 _
 have HZq:=Lib.hid (hcell2 HD)
 have HS:=Lib.hid (hcell2 HG)
 have HKD:=Lib.hid KBD
 clear KBD
 go_region_held3 (fun w'=>at10 w.heap.size E (some ⟨bb,off,none⟩) N c va ln vc w'∧w'.cell? ⟨bb,off+i*5+3,none⟩=some (.int .i64 on)) (first|(with_reducible exact hcell2 HG)|(with_reducible exact HZq.out)|(with_reducible exact HS.out)) (first
  | (go_at_call 76;((with_reducible first|refine (htk _ (Yaa hG1 HG)).mono ?_|refine (htk _ (Yaa hG1 HD)).mono ?_);rintro e w6 ⟨v6,rfl,V6,hg6⟩;obtain ⟨l6,n6,c6,va6,ln6,vc6,hv6,_⟩:=V6.lie;subst hv6;unfold Ya1;(first
    | ((with_reducible replace HG:=Yaa HG hg6);have KN:=Yab w6 (.cells hZ 31);replace HZq:=Lib.hid (hcell2 (Yaa HG (hz w6)));replace HS:=Lib.hid (hcell2 (Yaa HG (World.grownBy_alloc w6 (.cells (hC E l6 n6 c6 va6 ln6 vc6) 31) none)));obtain ⟨⟨p0,p1,p2,p3,p4,p5,p6,p7,p8,p9⟩,pf⟩:=Yaq KN;have pf0:=pf 0 (by decide);have pf1:=pf 1 (by decide);have pf2:=pf 2 (by decide);have pf3:=pf 3 (by decide);have pf4:=pf 4 (by decide);have pf5:=pf 5 (by decide);have pf6:=pf 6 (by decide);have pf7:=pf 7 (by decide);have pf8:=pf 8 (by decide);have pf9:=pf 9 (by decide);clear pf)
    | ((with_reducible replace HG:=Yaa HD hg6);have KB:=(hg6.block _ (lt_of_block HKD.out) (by simp)).trans HKD.out;have HKB:=Nat.le_refl w1.heap.size;have HP:=Yb8 (E:=E) (la:=l6) (n:=n6) (c:=c6) (va:=va6) (ln:=ln6) (vc:=vc6) KB;unfold Ycx at HP;replace HS:=Lib.hid (hcell2 (Yap (Yaa (Yam HG _) HP.2) HKB));clear HP;obtain ⟨⟨p0,p1,p2,p3,p4,p5,p6,p7,p8,p9⟩,pf⟩:=Yaq KB;have pf0:=pf 0 (by decide);have pf1:=pf 1 (by decide);have pf2:=pf 2 (by decide);have pf3:=pf 3 (by decide);have pf4:=pf 4 (by decide);have pf5:=pf 5 (by decide);have pf6:=pf 6 (by decide);have pf7:=pf 7 (by decide);have pf8:=pf 8 (by decide);have pf9:=pf 9 (by decide);clear pf));obtain ⟨⟨x0,x1,x2,x3,x4,x5,x6,x7,x8,x9⟩,s3⟩:=hcell2 HG)))
 all_goals
  first
   | (obtain ⟨P9,Q9⟩:=Yb8 (E:=E) (la:=l6) (n:=n6) (c:=c6) (va:=va6) (ln:=ln6) (vc:=vc6) (show w6.heap[w1.heap.size]?=some (.cells hZ 31 (0,0)) from KB);obtain ⟨W9,hW9⟩:∃ W9,Ycx w6 w1.heap.size E l6 n6 c6 va6 ln6 vc6=W9:=⟨_,rfl⟩;unfold Ycx at hW9 P9 Q9;rw [hW9] at P9 Q9 ⊢;have G9:=Yap (Yaa (Yam HG _) Q9) HKB;have V9:=V6.other KB (by decide) (by decide) Q9;clear hW9 Q9 KB)
   | (have P9:=Yab w6 (.cells (hC E l6 n6 c6 va6 ln6 vc6) 31);have G9:=Yaa HG (World.grownBy_alloc w6 (.cells (hC E l6 n6 c6 va6 ln6 vc6) 31) none);have V9:=V6.later (World.grownBy_alloc w6 (.cells (hC E l6 n6 c6 va6 ln6 vc6) 31) none);obtain ⟨W9,hW9⟩:∃ W9,w6.alloc (.cells (hC E l6 n6 c6 va6 ln6 vc6) 31)=W9:=⟨_,rfl⟩;rw [hW9] at P9 G9 V9 ⊢;clear hW9 KN)
  clear x0 x1 x2 x3 x4 x5 x6 x7 x8 x9 s3 p0 p1 p2 p3 p4 p5 p6 p7 p8 p9 pf0 pf1 pf2 pf3 pf4 pf5 pf6 pf7 pf8 pf9
  have B9:=(G9.block _ (lt_of_block hx1) (by simp)).trans hx1
  have R9:=(G9.block _ (lt_of_block hr1) (by simp)).trans hr1
  obtain ⟨⟨y0,y1,y2,y3,y4,y5,y6,y7,y8,y9⟩,_⟩:=Yaq P9
  obtain ⟨⟨a0,a1,a2,a3,a4,a5,a6,a7,a8,a9⟩,_⟩:=Yaq B9
  obtain ⟨⟨r0,r1,r2,r3,r4,r5,r6,r7,r8,r9⟩,rf⟩:=Yaq R9
  have rf0:=rf 0 (by decide)
  have rf1:=rf 1 (by decide)
  have rf2:=rf 2 (by decide)
  have rf3:=rf 3 (by decide)
  have rf4:=rf 4 (by decide)
  have rf5:=rf 5 (by decide)
  have rf6:=rf 6 (by decide)
  have rf7:=rf 7 (by decide)
  have rf8:=rf 8 (by decide)
  have rf9:=rf 9 (by decide)
  clear rf
  go_wp2
  obtain ⟨P11,Q11⟩:=Yb8 (E:=E) (la:=some ⟨bb,off,none⟩) (n:=N) (c:=c) (va:=va) (ln:=ln) (vc:=vc) R9
  obtain ⟨W11,hW11⟩:∃ W11,Ycx W9 (w.heap.size+1) E (some ⟨bb,off,none⟩) N c va ln vc=W11:=⟨_,rfl⟩
  unfold Ycx at hW11 P11 Q11
  rw [hW11] at P11 Q11 ⊢
  obtain ⟨⟨b0,b1,b2,b3,b4,b5,b6,b7,b8,b9⟩,_⟩:=Yaq P11
  refine bodyPost_ret (v:=.tuple #[Ya1 E (.slice (some ⟨bb,off,none⟩) N c) (fun c=>.slice (va c) (ln c) (vc c)),.int .u64 0,.int .i64 3]) (by simp [results,Tryz.results84,go_sem,Ya1,b0,b1,b2,b3,b4,b5,b6,b7,b8,b9]) rfl ?_
  have G10:=Yaa hG1 G9
  exact ⟨rfl,(HV.out.later G10).other R9 (by decide) (by decide) Q11,Yap (Yaa (Yam G10 _) Q11) (Nat.le_succ _)⟩
set_option maxHeartbeats 16000000 in
theorem rresize12_outF {w:World} {F0:Nat→Prop} {base K:Nat} {v:Value} {E:Nat} {bs:List Blk} {L:Nat→List Nat} (h:Fine K E bs L) (hK:K≤700) (hR:∀ g,F0 g→g<w.heap.size) (hv:HvF w F0 base v E bs L) (hbw:base≤w.heap.size) {p n i:Nat} (hpl:fstN (pF p) bs=some i) (hn:n≤18446744073709551560) (hnd':gS bs i<Yat n) (hfit:fitM bs n 16≠none) :
  Calls Tryz.prog 84 #[v,.int .u64 p,.int .u64 n] w fun e w'=>∃ v',e=.returned (.tuple #[v',.int .u64 (tkP bs n 16:Nat),.int .i64 0])∧HvF w' F0 base v' E (frB (tkB bs (gW bs i).toNat n 16) p) (frL (tkB bs (gW bs i).toNat n 16) (tkL bs L (gW bs i).toNat n 16) p)∧w.grownBy w' none:=by
 have hlen:=h.few
 have hi:=(pF_some hpl).1
 have hm:=may_bounds (h.is _ (getB_mem hi)).1
 obtain ⟨on,hoi⟩:∃ on:Nat,gW bs i=(on:Int):=Int.eq_ofNat_of_zero_le hm.2.2.2.1
 have how:on≤8:=by
  have:=hm.2.2.2.2.1
  unfold gW at hoi
  omega
 have e2:tkE bs n 16=0:=by
  unfold tkE
  cases hq:fitM bs n 16 with
  | none=>exact absurd hq hfit
  | some _=>rfl
 have htk:=fun (V:World) (hg:w.grownBy V none)=>tk_fineF (owner:=on) h (by omega) (fun g e=>Nat.lt_of_lt_of_le (hR g e) hg.size) (hv.later hg) (Nat.le_trans hbw hg.size) (.inl rfl:Ybr 16) hn how
 rw [e2] at htk
 have hfr:=fun (V:World) (v:Value) (hg:w.grownBy V none) (hv:HvF V F0 base v E (tkB bs on n 16) (tkL bs L on n 16))=>fr_fineF (h.take how) (by omega) (fun g e=>Nat.lt_of_lt_of_le (hR g e) hg.size) hv (Nat.le_trans hbw hg.size) p
 rw [hoi,Int.toNat_natCast]
 obtain ⟨P,hP⟩:∃ P,tkP bs n 16=P:=⟨_,rfl⟩
 rw [hP] at htk ⊢
 obtain ⟨bs2,hbs2⟩:∃ x,tkB bs on n 16=x:=⟨_,rfl⟩
 obtain ⟨L2,hL2⟩:∃ x,tkL bs L on n 16=x:=⟨_,rfl⟩
 rw [hbs2,hL2] at htk hfr ⊢
 obtain ⟨bs3,hbs3⟩:∃ x,frB bs2 p=x:=⟨_,rfl⟩
 obtain ⟨L3,hL3⟩:∃ x,frL bs2 L2 p=x:=⟨_,rfl⟩
 obtain ⟨fe,hfe⟩:∃ x,frE bs2 p=x:=⟨_,rfl⟩
 rw [hbs3,hL3] at hfr ⊢
 rw [hfe] at hfr
 clear hP hbs2 hL2 hbs3 hL3 hfe
 have hplace:=fun (V:World) (hg:w.grownBy V none)=>Ybp (hv.later hg).is (by omega) p
 have hz:fstZ (pF p) bs=(i:Nat):=by unfold fstZ;rw [hpl]
 rw [hz] at hplace
 have hnd:=Ycw n (by omega)
 obtain ⟨nd,end'⟩:∃ nd,Yat n=nd:=⟨_,rfl⟩
 rw [end'] at hnd hnd'
 obtain ⟨la,N,c,va,ln,vc,rfl,hN⟩:=hv.lie
 have hb:Yb0 w la bs:=by
  obtain ⟨b0,vs0,e0,o0,_⟩:=hv
  have q1:=heapV_blk e0
  rw [← q1] at o0
  exact own_at o0
 obtain ⟨bb,off,rfl,hbb,hcs⟩:=hb.cells (by omega)
 obtain ⟨sz,hsz⟩:∃ sz,gS bs i=sz:=⟨_,rfl⟩
 have hcell:∀ V:World,w.grownBy V none→V.cell? ⟨bb,off+i*5+1,none⟩=some (.int .u64 (sz:Nat))∧V.cell? ⟨bb,off+i*5+3,none⟩=some (.int .i64 (on:Nat)):=fun V hg=>by
  obtain ⟨b',off',e,_,hc'⟩:=(hb.later hg).cells (by omega)
  injection e with e
  injection e with e1 e2
  subst e1 e2
  obtain ⟨_,a1,_,a3,_⟩:=hc' i hi
  rw [hsz] at a1
  rw [hoi] at a3
  exact ⟨a1,a3⟩
 rw [hsz] at hnd'
 rw [hN] at hi
 have i1:¬ (i:Int)<0:=by omega
 have i2:(i:Int)<(N:Int):=by omega
 have i3:¬ (nd:Int)≤(sz:Int):=by omega
 have HV:=Lib.hid hv
 have HCL:=Lib.hid hcell
 replace htk:∀ V:World,w.grownBy V none→Calls Tryz.prog 76 #[.agg (hC E (some ⟨bb,off,none⟩) N c va ln vc),.int .i64 on,.int .u64 n,.int .u64 16] V fun e w'=>∃ v',e=.returned (.tuple #[v',.int .u64 P,.int .i64 0])∧HvF w' F0 base v' E bs2 L2∧V.grownBy w' none:=htk
 unfold Ya1 at hplace ⊢
 clear hN hv hb hz hpl hcs h hlen hcell hnd' hR hn hm hoi how hsz hfit end' hi
 go_enter Tryz.func84,Tryz.ntmps84
 go_wp2_with (first
  | (go_at_call 100;((with_reducible refine (hplace _ (Yaa (World.grownBy_alloc _ _ _) (World.grownBy_alloc _ _ _))).mono ?_);rintro e w1 ⟨rfl,hg1⟩;obtain ⟨hx1,hr1,hG1⟩:=Ydj hg1;obtain ⟨s1,s3⟩:=HCL.out _ hG1;obtain ⟨⟨x0,x1,x2,x3,x4,x5,x6,x7,x8,x9⟩,_⟩:=Yaq hx1))
  | (go_at_call 19;((with_reducible refine (hnd _).mono ?_);rintro e w2 ⟨rfl,rfl⟩)))
 have hcell2:∀ {V:World},w1.grownBy V none→at10 w.heap.size E (some ⟨bb,off,none⟩) N c va ln vc V∧V.cell? ⟨bb,off+i*5+3,none⟩=some (.int .i64 on):=fun {V} hg=>⟨at10_of ((hg.block _ (lt_of_block hx1) (by simp)).trans hx1),(HCL.out _ (Yaa hG1 hg)).2⟩
 clear x0 x1 x2 x3 x4 x5 x6 x7 x8 x9 s1 s3
 have HG:w1.grownBy w1.drew none:=Yah (Yag _ _)
 obtain ⟨⟨x0,x1,x2,x3,x4,x5,x6,x7,x8,x9⟩,s3⟩:=hcell2 HG
 have hz:=fun (V:World)=>World.grownBy_alloc V (.cells hZ 31) none
 have HD:w1.grownBy (w1.alloc (.cells hZ 31)).drew none:=Yah (hz w1)
 have KBD:(w1.alloc (.cells hZ 31)).drew.heap[w1.heap.size]?=some (.cells hZ 31 (0,0)):=Yab w1 _
 have HZq:=Lib.hid (hcell2 HD)
 have HS:=Lib.hid (hcell2 HG)
 have HKD:=Lib.hid KBD
 clear KBD
 go_region_held3 (fun w'=>at10 w.heap.size E (some ⟨bb,off,none⟩) N c va ln vc w'∧w'.cell? ⟨bb,off+i*5+3,none⟩=some (.int .i64 on)) (first|(with_reducible exact hcell2 HG)|(with_reducible exact HZq.out)|(with_reducible exact HS.out)) (first
  | (go_at_call 76;((with_reducible first|refine (htk _ (Yaa hG1 HG)).mono ?_|refine (htk _ (Yaa hG1 HD)).mono ?_);rintro e w6 ⟨v6,rfl,V6,hg6⟩;obtain ⟨l6,n6,c6,va6,ln6,vc6,hv6,_⟩:=V6.lie;subst hv6;unfold Ya1;(first
    | ((with_reducible replace HG:=Yaa HG hg6);have KN:=Yab w6 (.cells hZ 31);replace HZq:=Lib.hid (hcell2 (Yaa HG (hz w6)));replace HS:=Lib.hid (hcell2 (Yaa HG (World.grownBy_alloc w6 (.cells (hC E l6 n6 c6 va6 ln6 vc6) 31) none)));obtain ⟨⟨p0,p1,p2,p3,p4,p5,p6,p7,p8,p9⟩,pf⟩:=Yaq KN;have pf0:=pf 0 (by decide);have pf1:=pf 1 (by decide);have pf2:=pf 2 (by decide);have pf3:=pf 3 (by decide);have pf4:=pf 4 (by decide);have pf5:=pf 5 (by decide);have pf6:=pf 6 (by decide);have pf7:=pf 7 (by decide);have pf8:=pf 8 (by decide);have pf9:=pf 9 (by decide);clear pf)
    | ((with_reducible replace HG:=Yaa HD hg6);have KB:=(hg6.block _ (lt_of_block HKD.out) (by simp)).trans HKD.out;have HKB:=Nat.le_refl w1.heap.size;have HP:=Yb8 (E:=E) (la:=l6) (n:=n6) (c:=c6) (va:=va6) (ln:=ln6) (vc:=vc6) KB;unfold Ycx at HP;replace HS:=Lib.hid (hcell2 (Yap (Yaa (Yam HG _) HP.2) HKB));clear HP;obtain ⟨⟨p0,p1,p2,p3,p4,p5,p6,p7,p8,p9⟩,pf⟩:=Yaq KB;have pf0:=pf 0 (by decide);have pf1:=pf 1 (by decide);have pf2:=pf 2 (by decide);have pf3:=pf 3 (by decide);have pf4:=pf 4 (by decide);have pf5:=pf 5 (by decide);have pf6:=pf 6 (by decide);have pf7:=pf 7 (by decide);have pf8:=pf 8 (by decide);have pf9:=pf 9 (by decide);clear pf));obtain ⟨⟨x0,x1,x2,x3,x4,x5,x6,x7,x8,x9⟩,s3⟩:=hcell2 HG)))
 all_goals
  first
   | (obtain ⟨P9,Q9⟩:=Yb8 (E:=E) (la:=l6) (n:=n6) (c:=c6) (va:=va6) (ln:=ln6) (vc:=vc6) (show w6.heap[w1.heap.size]?=some (.cells hZ 31 (0,0)) from KB);obtain ⟨W9,hW9⟩:∃ W9,Ycx w6 w1.heap.size E l6 n6 c6 va6 ln6 vc6=W9:=⟨_,rfl⟩;unfold Ycx at hW9 P9 Q9;rw [hW9] at P9 Q9 ⊢;have G9:=Yap (Yaa (Yam HG _) Q9) HKB;have V9:=V6.other KB (by decide) (by decide) Q9;clear hW9 Q9 KB)
   | (have P9:=Yab w6 (.cells (hC E l6 n6 c6 va6 ln6 vc6) 31);have G9:=Yaa HG (World.grownBy_alloc w6 (.cells (hC E l6 n6 c6 va6 ln6 vc6) 31) none);have V9:=V6.later (World.grownBy_alloc w6 (.cells (hC E l6 n6 c6 va6 ln6 vc6) 31) none);obtain ⟨W9,hW9⟩:∃ W9,w6.alloc (.cells (hC E l6 n6 c6 va6 ln6 vc6) 31)=W9:=⟨_,rfl⟩;rw [hW9] at P9 G9 V9 ⊢;clear hW9 KN)
  clear x0 x1 x2 x3 x4 x5 x6 x7 x8 x9 s3 p0 p1 p2 p3 p4 p5 p6 p7 p8 p9 pf0 pf1 pf2 pf3 pf4 pf5 pf6 pf7 pf8 pf9
  have B9:=(G9.block _ (lt_of_block hx1) (by simp)).trans hx1
  have R9:=(G9.block _ (lt_of_block hr1) (by simp)).trans hr1
  obtain ⟨⟨y0,y1,y2,y3,y4,y5,y6,y7,y8,y9⟩,_⟩:=Yaq P9
  have hfr7:=hfr _ _ (Yaa hG1 G9) V9
  unfold Ya1 at hfr7
  go_wp2_with (first
   | (go_at_call 70;((with_reducible refine hfr7.mono ?_);rintro e w10 ⟨v10,rfl,V10,hg10⟩;obtain ⟨l9,n9,c9,va9,ln9,vc9,hv9,_⟩:=V10.lie;subst hv9;simp only [Ya1] at V10 ⊢;have ga10:=World.grownBy_alloc w10 (.cells (hC E l9 n9 c9 va9 ln9 vc9) 31) none;have G11:=Yaa hg10 ga10;have R11:=(G11.block _ (lt_of_block R9) (by simp)).trans R9;have V11:=V10.later ga10;obtain ⟨⟨k0,k1,k2,k3,k4,k5,k6,k7,k8,k9⟩,_⟩:=Yaq (Yab w10 (.cells (hC E l9 n9 c9 va9 ln9 vc9) 31));obtain ⟨⟨r0,r1,r2,r3,r4,r5,r6,r7,r8,r9⟩,rf⟩:=Yaq R11;have rf0:=rf 0 (by decide);have rf1:=rf 1 (by decide);have rf2:=rf 2 (by decide);have rf3:=rf 3 (by decide);have rf4:=rf 4 (by decide);have rf5:=rf 5 (by decide);have rf6:=rf 6 (by decide);have rf7:=rf 7 (by decide);have rf8:=rf 8 (by decide);have rf9:=rf 9 (by decide);clear rf)))
  obtain ⟨P11,Q11⟩:=Yb8 (E:=E) (la:=l9) (n:=n9) (c:=c9) (va:=va9) (ln:=ln9) (vc:=vc9) R11
  obtain ⟨W11,hW11⟩:∃ W11,Ycx (w10.alloc (.cells (hC E l9 n9 c9 va9 ln9 vc9) 31)) (w.heap.size+1) E l9 n9 c9 va9 ln9 vc9=W11:=⟨_,rfl⟩
  unfold Ycx at hW11 P11 Q11
  rw [hW11] at P11 Q11 ⊢
  obtain ⟨⟨b0,b1,b2,b3,b4,b5,b6,b7,b8,b9⟩,_⟩:=Yaq P11
  refine bodyPost_ret (v:=.tuple #[Ya1 E (.slice l9 n9 c9) (fun c=>.slice (va9 c) (ln9 c) (vc9 c)),.int .u64 P,.int .i64 0]) (by simp [results,Tryz.results84,go_sem,Ya1,b0,b1,b2,b3,b4,b5,b6,b7,b8,b9]) rfl ?_
  have G10:=Yaa hG1 (Yaa G9 G11)
  exact ⟨_,rfl,V11.other R11 (by decide) (by decide) Q11,Yap (Yaa (Yam G10 _) Q11) (Nat.le_succ _)⟩
theorem rz_fineF {w:World} {F0:Nat→Prop} {base K:Nat} {v:Value} {E:Nat} {bs:List Blk} {L:Nat→List Nat} (h:Fine K E bs L) (hK:K≤700) (hR:∀ g,F0 g→g<w.heap.size) (hv:HvF w F0 base v E bs L) (hbw:base≤w.heap.size) (p n:Nat) (hn64:n<18446744073709551616) :
  Calls Tryz.prog 84 #[v,.int .u64 p,.int .u64 n] w fun e w'=>∃ v',e=.returned (.tuple #[v',.int .u64 (rzP bs p n:Nat),.int .i64 (rzE bs p n:Nat)])∧HvF w' F0 base v' E (rzB bs p n) (rzL bs L p n)∧w.grownBy w' none:=by
 have hlen:=h.few
 unfold rzP rzE rzB rzL
 cases hf:fstN (pF p) bs with
 | none =>
  refine (rresize12_none hv.is (by omega) hf n).mono ?_
  rintro e w' ⟨rfl,hg⟩
  exact ⟨v,rfl,hv.later hg,hg⟩
 | some i =>
  dsimp only
  by_cases h1:18446744073709551560<n
  ·rw [if_pos h1,if_pos h1,if_pos h1,if_pos h1]
   refine (rresize12_size hv.is (by omega) hf hn64 (by omega)).mono ?_
   rintro e w' ⟨rfl,hg⟩
   exact ⟨v,rfl,hv.later hg,hg⟩
  ·rw [if_neg h1,if_neg h1,if_neg h1,if_neg h1]
   by_cases h2:Yat n≤gS bs i
   ·rw [if_pos h2,if_pos h2,if_pos h2,if_pos h2]
    have hi:=(pF_some hf).1
    have hbs:=bs_amid hi
    have hti:(bs.take i).length=i:=by rw [List.length_take];omega
    show Calls Tryz.prog 84 #[v,.int .u64 p,.int .u64 n] w fun e w'=>∃ v',e=.returned (.tuple #[v',.int .u64 p,.int .i64 0])∧HvF w' F0 base v' E (ctB (bs.take i++⟨(bs.getD i default).off,(bs.getD i default).s,(bs.getD i default).u,(bs.getD i default).o,n⟩::bs.drop (i+1)) p (Yat n)) L∧w.grownBy w' none
    unfold gS at h2
    obtain ⟨b,hb'⟩:∃ b,bs.getD i default=b:=⟨_,rfl⟩
    obtain ⟨A,hA⟩:∃ A,bs.take i=A:=⟨_,rfl⟩
    obtain ⟨C,hC⟩:∃ C,bs.drop (i+1)=C:=⟨_,rfl⟩
    rw [hb',hA,hC] at hbs
    rw [hb'] at h2
    rw [hA] at hti
    rw [hb',hA,hC]
    rw [hbs] at h hv hf
    rw [← hti] at hf
    exact rresize12_inF h (by omega) hR hv hbw hf (by omega) h2
   ·rw [if_neg h2,if_neg h2,if_neg h2,if_neg h2]
    cases hq:fitM bs n 16 with
    | none =>
     have e1:tkP bs n 16=0:=by unfold tkP;rw [hq]
     have e2:tkE bs n 16=3:=by unfold tkE;rw [hq]
     rw [e1,e2]
     refine (rresize12_badF h hK hR hv hbw hf (by omega) (by omega) hq).mono ?_
     rintro e w' ⟨rfl,h3,hg⟩
     exact ⟨v,rfl,h3,hg⟩
    | some j =>
     have e2:tkE bs n 16=0:=by unfold tkE;rw [hq]
     rw [e2]
     exact rresize12_outF h hK hR hv hbw hf (by omega) (by omega) (by rw [hq];exact fun e=>by cases e)
end
section
structure OpM where
 kind:Int
 n:Nat
 a:Nat
 off:Nat
 i:Nat
 v:Nat
 to:Int
 name:ByteArray
def opC (x:OpM):Array Value:=#[.int .i64 x.kind,.int .u64 x.n,.int .u64 x.a,.int .u64 x.off,.int .u64 x.i,.int .u64 x.v,.int .i64 x.to,.string x.name]
theorem opC_one {x:OpM}:(opC x).all (·.oneCell')=true:=by simp [opC,Value.oneCell']
def pubK (k:Int):Bool:=k == 5 || k == 6 || k == 7
def ownE (ow:Int) (c:Nat) (kind:Int):Int:=if ow=(c:Int)+1 then 0 else if ow=0∧pubK kind=true then 0 else 5
def ownR (S:MS) (c:Nat) (x:OpM):Int:=match fstN (pF x.off) S.bs with|none=>4|some i=>ownE (gW S.bs i) c x.kind
section
variable {w w' W:World} {F:Nat→Prop} {base all K:Nat} {v:Value} {S:MS}
set_option maxHeartbeats 1000000 in
theorem Ydc (h:StIs w F base v all S) (hlen:S.bs.length≤1000000) {c:Nat} (hc:c<8) (x:OpM) :
  Calls Tryz.prog 83 #[v,.int .i64 c,.agg (opC x)] w fun e w'=>e=.returned (.tuple #[.int .i64 (fstZ (pF x.off) S.bs),.int .i64 (ownR S c x)])∧w.grownBy w' none:=by
 obtain ⟨la,n,cp,va,ln,vc,da,dn,dc,na,nn,nc,lD,rfl,hb,hl,hd,hpl,hn,hf⟩:=h
 obtain ⟨kind,xn,xa,off,xi,xv,to,nm⟩:=x
 have hin:=hR_in (all:=all) (E:=S.E) (la:=la) (n:=n) (c:=cp) (va:=va) (ln:=ln) (vc:=vc) (da:=da) (dn:=dn) (dc:=dc) (na:=na) (nn:=nn) (nc:=nc) (lv:=S.lv)
 have hc2:(sC all S.E la n cp va ln vc da dn dc na nn nc S.lv)[2]?=some (.slice la n cp):=rfl
 obtain ⟨cs,hcs⟩:∃ cs,sC all S.E la n cp va ln vc da dn dc na nn nc S.lv=cs:=⟨_,rfl⟩
 rw [hcs] at hc2 ⊢
 simp only [hcs] at hin
 have hv0:=hv_of (E:=S.E) hb hl
 obtain ⟨hs,hhs⟩:∃ hs,hR S.E la n cp va ln vc=hs:=⟨_,rfl⟩
 have hhz:hs.size=10:=by rw [← hhs];rfl
 rw [hhs] at hv0 hin
 have b1:=Yab w (.cells cs 36)
 have b2:=Yab (w.alloc (.cells cs 36)) (.cells (opC ⟨kind,xn,xa,off,xi,xv,to,nm⟩) 41)
 rw [World.size_alloc] at b2
 have g01:=World.grownBy_alloc w (.cells cs 36) none
 have g02:=World.grownBy_alloc (w.alloc (.cells cs 36)) (.cells (opC ⟨kind,xn,xa,off,xi,xv,to,nm⟩) 41) none
 have hg:=Yaa g01 g02
 have b1':=(g02.block _ (lt_of_block b1) (by simp)).trans b1
 obtain ⟨W0,hW0⟩:∃ W0,((w.alloc (.cells cs 36)).alloc (.cells (opC ⟨kind,xn,xa,off,xi,xv,to,nm⟩) 41))=W0:=⟨_,rfl⟩
 rw [hW0] at b1' b2 hg
 have d3:W0.cell? ⟨w.heap.size+1,3,none⟩=some (.int .u64 (off:Nat)):=Yas b2 rfl
 have hplace:=Ybp (hv0.is.later hg) hlen off
 have HIN:=Lib.hid hin
 obtain ⟨la',c',hlv,hat⟩:=hb.at_
 obtain ⟨N,hN⟩:∃ N,S.bs.length=N:=⟨_,rfl⟩
 rw [hN] at hlv hlen
 injection hlv with e1 e2 e3
 subst e1 e2 e3
 have HN:=Lib.hid hN
 have HBL:=Lib.hid (fun (V:World) (hg:w.grownBy V none)=>hat.later hg)
 have HG:=Lib.hid hg
 obtain ⟨z,hz⟩:∃ z,fstZ (pF off) S.bs=z:=⟨_,rfl⟩
 show Calls _ _ _ _ fun e w'=>e=.returned (.tuple #[.int .i64 (fstZ (pF off) S.bs),.int .i64 (match fstN (pF off) S.bs with|none=>4|some i=>ownE (gW S.bs i) c kind)])∧w.grownBy w' none
 rw [hz] at hplace ⊢
 clear hin hat hN b1 g01 g02 hv0 hhs hg hcs hb hl hd hpl hn
 have hz2:fstZ (pF off) S.bs=match fstN (pF off) S.bs with|some i=>(i:Int)|none => -1:=rfl
 rw [hz] at hz2
 cases hf:fstN (pF off) S.bs with
 | none =>
  rw [hf] at hz2
  have HZ2:=Lib.hid hz2
  clear hf hz hz2
  go_enter Tryz.func83,Tryz.ntmps83
  go_wp2_with (first
   | (refine Yad rfl 31 _ rfl _ 1 rfl b1' hs HIN.out _ Tryz.underlying31 rfl (by rw [Ybc,hhz]) ?_)
   | (go_at_call 100;(with_reducible refine hplace.mono ?_);rintro e w1 ⟨rfl,hg1⟩;obtain rfl:=HZ2.out))
  go_ret2
  exact ⟨rfl,Yaa HG.out hg1⟩
 | some i =>
  rw [hf] at hz2
  simp only at hz2
  subst hz2
  obtain ⟨hi,-⟩:=Ydr hf
  rw [HN.out] at hi
  obtain ⟨ow,how⟩:∃ ow,gW S.bs i=ow:=⟨_,rfl⟩
  have HOW:=Lib.hid how
  show Calls _ _ _ _ fun e w'=>e=.returned (.tuple #[.int .i64 (i:Int),.int .i64 (ownE (gW S.bs i) c kind)])∧w.grownBy w' none
  rw [how]
  clear hf hz how
  have hc2':=fun (V:World) (hg:W0.grownBy V none)=>Yas ((hg.block _ (lt_of_block b1') (by simp)).trans b1') hc2
  have d0:=fun (V:World) (hg:W0.grownBy V none)=>Yas ((hg.block _ (lt_of_block b2) (by simp)).trans b2) (show (opC ⟨kind,xn,xa,off,xi,xv,to,nm⟩)[0]?=some (.int .i64 kind) from rfl)
  have HC2:=Lib.hid hc2'
  have HD0:=Lib.hid d0
  have i2:(i:Int)<(n:Int):=by omega
  have in0:¬ (i:Int)<0:=by omega
  clear hc2 hc2' d0
  obtain ⟨bb,boff,rfl,hbb,hcl⟩:=(HBL.out w (Yag _ _)).cells (by rw [HN.out];omega)
  obtain ⟨-,-,-,z3,-⟩:=hcl i (by rw [HN.out];exact hi)
  rw [HOW.out] at z3
  have HZ3:=Lib.hid (fun (V:World) (hg:w.grownBy V none)=>(World.cell?_of_block (w:=w) (a:=⟨bb,boff+i*5+3,none⟩) (hg.block bb hbb (by simp))).trans z3)
  clear hcl z3 hbb
  rcases (show ow=(c:Int)+1∨(ow=0∧¬ ow=(c:Int)+1)∨(¬ ow=0∧¬ ow=(c:Int)+1) by omega) with ho|⟨ho,ho'⟩|⟨ho,ho'⟩
  all_goals rcases (show kind=5∨kind=6∨kind=7∨(¬ kind=5∧¬ kind=6∧¬ kind=7) by omega) with hk|hk|hk|⟨hk5,hk6,hk7⟩
  ·subst hk
   subst ho
   have HE:Hid (ownE ((c:Int)+1) c (5:Int)=0):=Lib.hid (by unfold ownE;rw [if_pos rfl])
   go_enter Tryz.func83,Tryz.ntmps83
   go_wp2_with (first
    | (refine Yad rfl 31 _ rfl _ 1 rfl b1' hs HIN.out _ Tryz.underlying31 rfl (by rw [Ybc,hhz]) ?_)
    | (go_at_call 100;(with_reducible refine hplace.mono ?_);rintro e w1 ⟨rfl,hg1⟩;have c2:=HC2.out w1 hg1;have k0:=HD0.out w1 hg1;have z3:=HZ3.out w1 (Yaa HG.out hg1)))
   go_ret2
   refine ⟨?_,Yaa HG.out hg1⟩
   have e:=HE.out
   rw [e]
   rfl
  ·subst hk
   subst ho
   have HE:Hid (ownE ((c:Int)+1) c (6:Int)=0):=Lib.hid (by unfold ownE;rw [if_pos rfl])
   go_enter Tryz.func83,Tryz.ntmps83
   go_wp2_with (first
    | (refine Yad rfl 31 _ rfl _ 1 rfl b1' hs HIN.out _ Tryz.underlying31 rfl (by rw [Ybc,hhz]) ?_)
    | (go_at_call 100;(with_reducible refine hplace.mono ?_);rintro e w1 ⟨rfl,hg1⟩;have c2:=HC2.out w1 hg1;have k0:=HD0.out w1 hg1;have z3:=HZ3.out w1 (Yaa HG.out hg1)))
   go_ret2
   refine ⟨?_,Yaa HG.out hg1⟩
   have e:=HE.out
   rw [e]
   rfl
  ·subst hk
   subst ho
   have HE:Hid (ownE ((c:Int)+1) c (7:Int)=0):=Lib.hid (by unfold ownE;rw [if_pos rfl])
   go_enter Tryz.func83,Tryz.ntmps83
   go_wp2_with (first
    | (refine Yad rfl 31 _ rfl _ 1 rfl b1' hs HIN.out _ Tryz.underlying31 rfl (by rw [Ybc,hhz]) ?_)
    | (go_at_call 100;(with_reducible refine hplace.mono ?_);rintro e w1 ⟨rfl,hg1⟩;have c2:=HC2.out w1 hg1;have k0:=HD0.out w1 hg1;have z3:=HZ3.out w1 (Yaa HG.out hg1)))
   go_ret2
   refine ⟨?_,Yaa HG.out hg1⟩
   have e:=HE.out
   rw [e]
   rfl
  ·have q5:(kind == 5)=false:=by simpa using hk5
   have q6:(kind == 6)=false:=by simpa using hk6
   have q7:(kind == 7)=false:=by simpa using hk7
   subst ho
   have HE:Hid (ownE ((c:Int)+1) c kind=0):=Lib.hid (by unfold ownE;rw [if_pos rfl])
   go_enter Tryz.func83,Tryz.ntmps83
   go_wp2_with (first
    | (refine Yad rfl 31 _ rfl _ 1 rfl b1' hs HIN.out _ Tryz.underlying31 rfl (by rw [Ybc,hhz]) ?_)
    | (go_at_call 100;(with_reducible refine hplace.mono ?_);rintro e w1 ⟨rfl,hg1⟩;have c2:=HC2.out w1 hg1;have k0:=HD0.out w1 hg1;have z3:=HZ3.out w1 (Yaa HG.out hg1)))
   go_ret2
   refine ⟨?_,Yaa HG.out hg1⟩
   have e:=HE.out
   rw [e]
   rfl
  ·subst hk
   subst ho
   have p1:((0:Int) == (c:Int)+1)=false:=by simpa using ho'
   have HE:Hid (ownE 0 c (5:Int)=0):=Lib.hid (by unfold ownE;rw [if_neg ho',if_pos ⟨rfl,rfl⟩])
   go_enter Tryz.func83,Tryz.ntmps83
   go_wp2_with (first
    | (refine Yad rfl 31 _ rfl _ 1 rfl b1' hs HIN.out _ Tryz.underlying31 rfl (by rw [Ybc,hhz]) ?_)
    | (go_at_call 100;(with_reducible refine hplace.mono ?_);rintro e w1 ⟨rfl,hg1⟩;have c2:=HC2.out w1 hg1;have k0:=HD0.out w1 hg1;have z3:=HZ3.out w1 (Yaa HG.out hg1)))
   go_ret2
   refine ⟨?_,Yaa HG.out hg1⟩
   have e:=HE.out
   rw [e]
   rfl
  ·subst hk
   subst ho
   have p1:((0:Int) == (c:Int)+1)=false:=by simpa using ho'
   have HE:Hid (ownE 0 c (6:Int)=0):=Lib.hid (by unfold ownE;rw [if_neg ho',if_pos ⟨rfl,rfl⟩])
   go_enter Tryz.func83,Tryz.ntmps83
   go_wp2_with (first
    | (refine Yad rfl 31 _ rfl _ 1 rfl b1' hs HIN.out _ Tryz.underlying31 rfl (by rw [Ybc,hhz]) ?_)
    | (go_at_call 100;(with_reducible refine hplace.mono ?_);rintro e w1 ⟨rfl,hg1⟩;have c2:=HC2.out w1 hg1;have k0:=HD0.out w1 hg1;have z3:=HZ3.out w1 (Yaa HG.out hg1)))
   go_ret2
   refine ⟨?_,Yaa HG.out hg1⟩
   have e:=HE.out
   rw [e]
   rfl
  ·subst hk
   subst ho
   have p1:((0:Int) == (c:Int)+1)=false:=by simpa using ho'
   have HE:Hid (ownE 0 c (7:Int)=0):=Lib.hid (by unfold ownE;rw [if_neg ho',if_pos ⟨rfl,rfl⟩])
   go_enter Tryz.func83,Tryz.ntmps83
   go_wp2_with (first
    | (refine Yad rfl 31 _ rfl _ 1 rfl b1' hs HIN.out _ Tryz.underlying31 rfl (by rw [Ybc,hhz]) ?_)
    | (go_at_call 100;(with_reducible refine hplace.mono ?_);rintro e w1 ⟨rfl,hg1⟩;have c2:=HC2.out w1 hg1;have k0:=HD0.out w1 hg1;have z3:=HZ3.out w1 (Yaa HG.out hg1)))
   go_ret2
   refine ⟨?_,Yaa HG.out hg1⟩
   have e:=HE.out
   rw [e]
   rfl
  ·have q5:(kind == 5)=false:=by simpa using hk5
   have q6:(kind == 6)=false:=by simpa using hk6
   have q7:(kind == 7)=false:=by simpa using hk7
   subst ho
   have p1:((0:Int) == (c:Int)+1)=false:=by simpa using ho'
   have HE:Hid (ownE 0 c kind=5):=Lib.hid (by unfold ownE pubK;rw [if_neg ho',if_neg (by rw [q5,q6,q7];simp)])
   go_enter Tryz.func83,Tryz.ntmps83
   go_wp2_with (first
    | (refine Yad rfl 31 _ rfl _ 1 rfl b1' hs HIN.out _ Tryz.underlying31 rfl (by rw [Ybc,hhz]) ?_)
    | (go_at_call 100;(with_reducible refine hplace.mono ?_);rintro e w1 ⟨rfl,hg1⟩;have c2:=HC2.out w1 hg1;have k0:=HD0.out w1 hg1;have z3:=HZ3.out w1 (Yaa HG.out hg1)))
   go_ret2
   refine ⟨?_,Yaa HG.out hg1⟩
   have e:=HE.out
   rw [e]
   rfl
  ·subst hk
   have p1:(ow == (c:Int)+1)=false:=by simpa using ho'
   have p0:(ow == 0)=false:=by simpa using ho
   have HE:Hid (ownE ow c (5:Int)=5):=Lib.hid (by unfold ownE;rw [if_neg ho',if_neg (fun e=>ho e.1)])
   go_enter Tryz.func83,Tryz.ntmps83
   go_wp2_with (first
    | (refine Yad rfl 31 _ rfl _ 1 rfl b1' hs HIN.out _ Tryz.underlying31 rfl (by rw [Ybc,hhz]) ?_)
    | (go_at_call 100;(with_reducible refine hplace.mono ?_);rintro e w1 ⟨rfl,hg1⟩;have c2:=HC2.out w1 hg1;have k0:=HD0.out w1 hg1;have z3:=HZ3.out w1 (Yaa HG.out hg1)))
   go_ret2
   refine ⟨?_,Yaa HG.out hg1⟩
   have e:=HE.out
   rw [e]
   rfl
  ·subst hk
   have p1:(ow == (c:Int)+1)=false:=by simpa using ho'
   have p0:(ow == 0)=false:=by simpa using ho
   have HE:Hid (ownE ow c (6:Int)=5):=Lib.hid (by unfold ownE;rw [if_neg ho',if_neg (fun e=>ho e.1)])
   go_enter Tryz.func83,Tryz.ntmps83
   go_wp2_with (first
    | (refine Yad rfl 31 _ rfl _ 1 rfl b1' hs HIN.out _ Tryz.underlying31 rfl (by rw [Ybc,hhz]) ?_)
    | (go_at_call 100;(with_reducible refine hplace.mono ?_);rintro e w1 ⟨rfl,hg1⟩;have c2:=HC2.out w1 hg1;have k0:=HD0.out w1 hg1;have z3:=HZ3.out w1 (Yaa HG.out hg1)))
   go_ret2
   refine ⟨?_,Yaa HG.out hg1⟩
   have e:=HE.out
   rw [e]
   rfl
  ·subst hk
   have p1:(ow == (c:Int)+1)=false:=by simpa using ho'
   have p0:(ow == 0)=false:=by simpa using ho
   have HE:Hid (ownE ow c (7:Int)=5):=Lib.hid (by unfold ownE;rw [if_neg ho',if_neg (fun e=>ho e.1)])
   go_enter Tryz.func83,Tryz.ntmps83
   go_wp2_with (first
    | (refine Yad rfl 31 _ rfl _ 1 rfl b1' hs HIN.out _ Tryz.underlying31 rfl (by rw [Ybc,hhz]) ?_)
    | (go_at_call 100;(with_reducible refine hplace.mono ?_);rintro e w1 ⟨rfl,hg1⟩;have c2:=HC2.out w1 hg1;have k0:=HD0.out w1 hg1;have z3:=HZ3.out w1 (Yaa HG.out hg1)))
   go_ret2
   refine ⟨?_,Yaa HG.out hg1⟩
   have e:=HE.out
   rw [e]
   rfl
  ·have q5:(kind == 5)=false:=by simpa using hk5
   have q6:(kind == 6)=false:=by simpa using hk6
   have q7:(kind == 7)=false:=by simpa using hk7
   have p1:(ow == (c:Int)+1)=false:=by simpa using ho'
   have p0:(ow == 0)=false:=by simpa using ho
   have HE:Hid (ownE ow c kind=5):=Lib.hid (by unfold ownE;rw [if_neg ho',if_neg (fun e=>ho e.1)])
   go_enter Tryz.func83,Tryz.ntmps83
   go_wp2_with (first
    | (refine Yad rfl 31 _ rfl _ 1 rfl b1' hs HIN.out _ Tryz.underlying31 rfl (by rw [Ybc,hhz]) ?_)
    | (go_at_call 100;(with_reducible refine hplace.mono ?_);rintro e w1 ⟨rfl,hg1⟩;have c2:=HC2.out w1 hg1;have k0:=HD0.out w1 hg1;have z3:=HZ3.out w1 (Yaa HG.out hg1)))
   go_ret2
   refine ⟨?_,Yaa HG.out hg1⟩
   have e:=HE.out
   rw [e]
   rfl
end
end
end Go.Proofs.YtfhiljglfhekdaaGreat
