/-
  Texts of one layer, one behind the other: memory, contracts of the functions, and what follows of them.
  Conditions: as each theorem says.
-/
import Derived.Test.YtfhiljglfhekdaaGreatLReb
import Derived.Test.YtfhiljglfhekdaaGreatLCah
import Derived.Test.YtfhiljglfhekdaaGreatLRea
import Derived.Laws.StructEq
import Derived.StillTailTactics
import Derived.BigQuiet
import Derived.Test.YtfhiljglfhekdaaGreatLTaa
import Derived.Deep.RegionHeld3
import Derived.Deep.QuietTactic
import Derived.Deep.AppendLies
import Derived.Laws.AppendOwnNone
import Derived.Test.YtfhiljglfhekdaaGreatLTxa
import Derived.RangeFuncCalls
import Derived.TacticsInMore
import Derived.OrdersIn
import Derived.Test.YtfhiljglfhekdaaGreatLSea
import Derived.Deep.LoopGhost
import Derived.Test.YtfhiljglfhekdaaGreatLHea
import Derived.Shelf.RegionOpen
import Derived.RangeFuncBox
import Derived.Test.YtfhiljglfhekdaaGreatLPha
import Derived.Test.YtfhiljglfhekdaaGreatLCla
set_option linter.unusedVariables false
set_option linter.unusedSimpArgs false
set_option maxRecDepth 100000
namespace Go.Proofs.YtfhiljglfhekdaaGreat
open Go.RowKit
section
section
variable {w0 W W':World} {base hb rb:Nat} {hcs:Array Value} {v:Value} {l:List Blk}
theorem FrB.turn (h:FrB w0 base hb rb hcs W v l) {u:Nat} (hg:W.grownBy W' (some u)) (hu:u<base∧u≠hb∧u≠rb∧w0.heap.size≤u):FrB w0 base hb rb hcs W' v l :=
 ⟨World.ownsRow.kept h.own hg (.inr fun e=>h.far hu.1 e.symm),(hg.block _ (lt_of_block h.hbx) (fun e=>hu.2.1 (by injection e with e;exact e.symm))).trans h.hbx,(hg.block _ (lt_of_block h.rbx) (fun e=>hu.2.2.1 (by injection e with e;exact e.symm))).trans h.rbx,Yaj h.since hg (fun i hi=>.inl (by injection hi with hi;subst hi;exact hu.2.2.2)),h.lo.1,h.lo.2.1,h.lo.2.2.1,h.lo.2.2.2.1,h.lo.2.2.2.2.1,h.lo.2.2.2.2.2.1,Nat.le_trans h.lo.2.2.2.2.2.2 hg.size⟩
end
theorem gS_of {l:List Blk} {S:Nat} (h:∀ x∈l,x.s≤S):∀ k,k<l.length→gS l k≤S:=fun k hk=>by
 unfold gS
 rw [List.getD_eq_getElem?_getD,List.getElem?_eq_getElem hk]
 exact h _ (List.getElem_mem _)
theorem of_gS {l:List Blk} {S:Nat} (h:∀ k,k<l.length→gS l k≤S):∀ x∈l,x.s≤S:=fun x hx=>by
 obtain ⟨k,hk,e⟩:=List.mem_iff_getElem.1 hx
 have:=h k hk
 unfold gS at this
 rw [List.getD_eq_getElem?_getD,List.getElem?_eq_getElem hk] at this
 rw [← e]
 exact this
theorem blks_two {V:World} {b:Nat} (x y:Blk) (hb:V.heap.size=b):Yb0 (V.alloc (.cells #[.int .u64 (x.off:Nat),.int .u64 (x.s:Nat),.bool x.u,.int .i64 x.o,.int .u64 (x.n:Nat),.int .u64 (y.off:Nat),.int .u64 (y.s:Nat),.bool y.u,.int .i64 y.o,.int .u64 (y.n:Nat)] 81)) (some ⟨b,0,none⟩) [x,y]:=by
 subst hb
 have h:=Yab V (.cells #[.int .u64 (x.off:Nat),.int .u64 (x.s:Nat),.bool x.u,.int .i64 x.o,.int .u64 (x.n:Nat),.int .u64 (y.off:Nat),.int .u64 (y.s:Nat),.bool y.u,.int .i64 y.o,.int .u64 (y.n:Nat)] 81)
 refine ⟨fun _=>⟨_,0,rfl,lt_of_block h,fun i hi=>?_⟩⟩
 have h2:i=0∨i=1:=by
  have:i<2:=hi
  omega
 unfold World.cell?
 simp only [h]
 rcases h2 with rfl|rfl
 ·exact ⟨rfl,rfl,rfl,rfl,rfl⟩
 ·exact ⟨rfl,rfl,rfl,rfl,rfl⟩
set_option maxHeartbeats 16000000 in
theorem rcut11_more {w:World} {base:Nat} {v:Value} {E:Nat} {A C:List Blk} {q:Blk} {L:Nat→List Nat} (h:HvIs w base v E (A++q::C) L) (hbw:base≤w.heap.size) (hlen:(A++q::C).length≤900) (hbd:Yds (A++q::C)) {p k:Nat} (hpl:fstN (pF p) (A++q::C)=some A.length) (hn:q.n+55<18446744073709551616) (hk1:k % 16=0∧Yat q.n≤k∧k+48≤q.s) (hcut:∀ la N c vs,v=Ya1 E (.slice la N c) vs→A.length+1<c) :
  Calls Tryz.prog 108 #[v,.int .u64 p,.int .u64 k] w fun e w'=>∃ v',e=.returned (.tuple #[v',.int .i64 0])∧HvIs w' base v' E (Ybs (A++(⟨q.off,k,q.u,q.o,q.n⟩::Ya4 (q.off+k) (q.s - k)::C))) L∧Yc9 v v' w.heap.size∧w.grownBy w' none:=by
 have hplace:=fun (V:World) (hg:w.grownBy V none)=>Ybp (h.later hg) (by omega) p
 obtain ⟨i,hi⟩:∃ i,A.length=i:=⟨_,rfl⟩
 have hz:fstZ (pF p) (A++q::C)=(i:Nat):=by unfold fstZ;rw [hpl,hi]
 rw [hz] at hplace
 obtain ⟨b,vs,hv0,ho,hl0⟩:=h.is
 obtain ⟨va,ln,vc,hvv,hl,hln⟩:=Ydi (E:=E) (b:=b) hl0
 rw [hvv] at hv0
 subst hv0
 clear hl0 hvv hz hpl
 obtain ⟨la,c,rfl,hb⟩:=ho.at_
 obtain ⟨N,hN⟩:∃ N,(A++q::C).length=N:=⟨_,rfl⟩
 have hiN:i<N:=by rw [← hN,← hi];simp
 have hqi:(A++q::C).getD i default=q:=by rw [← hi,List.getD_eq_getElem?_getD,List.getElem?_append_right (Nat.le_refl _),Nat.sub_self];rfl
 have hcN:N≤c:=by
  have:=own_cap ho
  rw [hN] at this
  exact this
 rw [hN] at hlen
 have hbq:=hbd i (by rw [hN];exact hiN)
 have hS:∀ x∈A++q::C,x.s≤10000000:=of_gS fun k hk=>by have:=(hbd k hk).2.2;omega
 have hq8:q.off<1000000∧q.s≤10000000:=by
  have h1:=hS q (by simp)
  have h2:=hbq.2.1
  unfold gO at h2
  rw [hqi] at h2
  omega
 have hjl:∀ x∈A++(⟨q.off,k,q.u,q.o,q.n⟩::Ya4 (q.off+k) (q.s - k)::C),x.s≤10000000:=fun x hx=>by
  simp only [List.mem_append,List.mem_cons] at hx
  rcases hx with hx|hx|hx|hx
  ·exact hS x (by simp [hx])
  ·rw [hx]
   show k≤_
   omega
  ·rw [hx]
   show q.s - k≤_
   omega
  ·exact hS x (by simp [hx])
 have hN2:(A++(⟨q.off,k,q.u,q.o,q.n⟩::Ya4 (q.off+k) (q.s - k)::C)).length=N+1:=by rw [← hN];simp;omega
 have hjn:=fun (V:World) (lj:Option Addr) (cj:Nat) (hj:Yb0 V lj (A++(⟨q.off,k,q.u,q.o,q.n⟩::Ya4 (q.off+k) (q.s - k)::C)))=>Yd9 (c:=cj) hj hN2 (by omega) (gS_of hjl)
 obtain ⟨bb,off,rfl,hbb,hcs⟩:=hb.cells (by omega)
 obtain ⟨c0,c1,c2,c3,c4⟩:=hcs i (by omega)
 unfold gO at c0
 unfold gS at c1
 unfold gU at c2
 unfold gW at c3
 unfold gN at c4
 rw [hqi] at c0 c1 c2 c3 c4
 have hnd:=fun V=>Ycw q.n hn V
 have hn48:=need48' q.n
 have htA:(A++q::C).take i=A:=by rw [← hi];simp
 have hdC:(A++q::C).drop (i+1)=C:=by rw [← hi];simp
 have hBT:∀ V:World,w.grownBy V none→Yb0 V (some ⟨bb,off,none⟩) A:=fun V hg=>by
  have:=(hb.later hg).take i
  rwa [htA] at this
 have hBD:∀ V:World,w.grownBy V none→Yb0 V (some ⟨bb,off+(i+1)*5,none⟩) C:=fun V hg=>by
  have:=(hb.later hg).drop (i+1)
  rwa [hdC] at this
 obtain ⟨q0,q1,q2,q3,q4⟩:=q
 simp only at hjn hN2 c0 c1 c2 c3 c4 hnd hn48 hk1 hq8 ⊢
 obtain ⟨nd,hnd'⟩:∃ nd,Yat q4=nd:=⟨_,rfl⟩
 rw [hnd'] at hnd hn48 hk1
 obtain ⟨k1,k2,k3⟩:=hk1
 obtain ⟨d,hd⟩:∃ d,q1 - k=d:=⟨_,rfl⟩
 obtain ⟨qk,hqk⟩:∃ qk,q0+k=qk:=⟨_,rfl⟩
 rw [hd,hqk] at hjn hN2 ⊢
 obtain ⟨bsq,hbsq⟩:∃ bsq,Ybs (A++(⟨q0,k,q2,q3,q4⟩::Ya4 qk d::C))=bsq:=⟨_,rfl⟩
 rw [hbsq] at hjn ⊢
 have hcell:∀ V:World,w.grownBy V none→V.cell? ⟨bb,off+i*5,none⟩=some (.int .u64 q0)∧V.cell? ⟨bb,off+i*5+1,none⟩=some (.int .u64 q1)∧V.cell? ⟨bb,off+i*5+2,none⟩=some (.bool q2)∧V.cell? ⟨bb,off+i*5+3,none⟩=some (.int .i64 q3)∧V.cell? ⟨bb,off+i*5+4,none⟩=some (.int .u64 q4):=fun V hg=>by
  have hq:=hg.block bb hbb (by simp)
  exact ⟨(World.cell?_of_block (w:=w) (a:=⟨bb,off+i*5,none⟩) hq).trans c0,(World.cell?_of_block (w:=w) (a:=⟨bb,off+i*5+1,none⟩) hq).trans c1,(World.cell?_of_block (w:=w) (a:=⟨bb,off+i*5+2,none⟩) hq).trans c2,(World.cell?_of_block (w:=w) (a:=⟨bb,off+i*5+3,none⟩) hq).trans c3,(World.cell?_of_block (w:=w) (a:=⟨bb,off+i*5+4,none⟩) hq).trans c4⟩
 have HCL:=Lib.hid hcell
 have i1:¬ (i:Int)<0:=by omega
 have i2:(i:Int)<(N:Int):=by omega
 have i3:(i:Int)≤(c:Int):=by omega
 have i4:(0:Int)≤(i:Int):=by omega
 have e16:(k:Int).tmod 16=0:=by rw [Int.tmod_eq_emod_of_nonneg (by omega)];omega
 have ed:IntKind.u64.wrap ((q1:Int) - (k:Int))=(d:Nat):=by rw [IntKind.wrap_u64];omega
 have eqk:IntKind.u64.wrap ((q0:Int)+(k:Int))=(qk:Nat):=by rw [IntKind.wrap_u64];omega
 have k48:¬ (k:Int)<48:=by omega
 have knd:¬ (k:Int)<(nd:Int):=by omega
 have kq:¬ (q1:Int)<(k:Int):=by omega
 have d48:¬ (d:Int)<48:=by omega
 have hAi:0+i≤1000000:=by omega
 have hAi2:i+2≤1000000:=by omega
 have hl2:(A++[(⟨q0,k,q2,q3,q4⟩:Blk),Ya4 qk d]).length=i+2:=by rw [← hi];simp
 have hCl:C.length=N - (i+1):=by
  have:(A++⟨q0,q1,q2,q3,q4⟩::C).length=N:=hN
  simp at this
  omega
 have hAC:i+2+(N - (i+1))≤1000000:=by omega
 have HJN:=Lib.hid hjn
 have HN:=Lib.hid hN
 have HN2:=Lib.hid hN2
 have HI:=Lib.hid hi
 have HL:=Lib.hid hl
 have HBT:=Lib.hid hBT
 have HBD:=Lib.hid hBD
 have HL2:=Lib.hid hl2
 have HCN:=Lib.hid hCl
 have hci:=hcut _ _ _ _ rfl
 rw [hi] at hci
 have hcA:¬ c=i+1:=by omega
 have hcB:¬ (c:Int)=(i:Int)+1:=by omega
 have hcC:¬ c - (i+1)=0:=by omega
 unfold Ya1 at hplace ⊢
 rw [hN] at hplace ⊢
 clear hjn hN hN2 hi hqi hl hln ho hb hbd hbq hS hjl hbsq h hcs c0 c1 c2 c3 c4 hcell hBT hBD htA hdC hl2 hCl hd hqk hnd' hn48 hn hq8 k1 k2 k3 hcut
 go_enter Tryz.func108,Tryz.ntmps108
 go_wp2_with (first
  | (go_at_call 100;((with_reducible refine (hplace _ (Yaa (World.grownBy_alloc _ _ _) (World.grownBy_alloc _ _ _))).mono ?_);rintro e w1 ⟨rfl,hg1⟩;obtain ⟨hx1,hr1,hG1⟩:=Ydj hg1;obtain ⟨⟨_,a1,_⟩,_⟩:=Yaq hx1;clear hx1 hr1;obtain ⟨y0,y1,y2,y3,y4⟩:=HCL.out _ hG1))
  | (go_at_call 19;((with_reducible refine (hnd _).mono ?_);rintro e w2 ⟨rfl,rfl⟩;have ga:=World.grownBy_alloc w1 (.cells #[.int .u64 q0,.int .u64 q1,.bool q2,.int .i64 q3,.int .u64 q4] 81) none;have ba:=Yab w1 (.cells #[.int .u64 q0,.int .u64 q1,.bool q2,.int .i64 q3,.int .u64 q4] 81);have hub:w.heap.size+1<w1.heap.size:=(by have:=hg1.size;rw [World.size_alloc,World.size_alloc] at this;omega);obtain ⟨W2,hW2⟩:∃ W2,w1.alloc (.cells #[.int .u64 q0,.int .u64 q1,.bool q2,.int .i64 q3,.int .u64 q4] 81)=W2:=⟨_,rfl⟩;obtain ⟨ub,hub'⟩:∃ ub,w1.heap.size=ub:=⟨_,rfl⟩;rw [hW2] at ga ba ⊢;rw [hub'] at ba hub ⊢;have X2:=fr_start (Yaa hg1 ga);have hu2:ub<W2.heap.size:=lt_of_block ba;replace hG1:=Yaa hG1 ga;have HUB:=Lib.hid hub;clear hW2 hub' ga a1 y0 y1 y2 y3 y4 hub;have b2:=((World.grownBy_alloc W2 (.cells #[] 81) none).block _ (lt_of_block ba) (by simp)).trans ba;obtain ⟨d0,d1,d2,d3,d4⟩:=Yaw ba;obtain ⟨⟨_,a1,_⟩,_⟩:=Yaq X2.hbx;have HB2:=Lib.hid b2;clear ba b2))
  | (at_builtin;(refine Yao X2.own (HBT.out _ X2.since) rfl HI.out hAi X2.lo.2.2.2.2.2.2 rfl _ _ rfl rfl rfl ?_);intro v5 w5 ho5 hg5 _;have X5:=X2.row ho5 hg5;have b5:=(hg5.block _ (lt_of_block HB2.out) (X2.far hu2)).trans HB2.out;have hu5:=lt_of_block b5;have n5:¬ ub=w5.heap.size:=Nat.ne_of_lt hu5;have n6:¬ w5.heap.size=ub:=Nat.ne_of_gt hu5;obtain ⟨d0,d1,d2,d3,d4⟩:=Yaw b5;obtain ⟨f0,f1,f2,f3,f4⟩:=five_frozen b5;have HB5:=Lib.hid b5;have X6:=((X5.turn (Yac w5 ub 1 (.int .u64 k)) ⟨hu2,by have:=HUB.out;omega,by have:=HUB.out;omega,by have:=HUB.out;omega⟩).later (World.grownBy_alloc _ (.cells #[.int .u64 qk,.int .u64 d,.bool false,.int .i64 0,.int .u64 0] 81) none)).later (World.grownBy_alloc _ (.cells #[.int .u64 q0,.int .u64 k,.bool q2,.int .i64 q3,.int .u64 q4,.int .u64 qk,.int .u64 d,.bool false,.int .i64 0,.int .u64 0] 81) none);clear b5 a1)
  | (at_builtin;(refine Yao X6.own (blks_two ⟨q0,k,q2,q3,q4⟩ (Ya4 qk d) (by simp:((w5.setCell ⟨ub,1,none⟩ (.int .u64 k)).alloc (.cells #[.int .u64 qk,.int .u64 d,.bool false,.int .i64 0,.int .u64 0] 81)).heap.size=w5.heap.size+1)) HI.out rfl hAi2 X6.lo.2.2.2.2.2.2 rfl _ _ rfl rfl rfl ?_);intro v7 w7 ho7 hg7 _;have X7:=X6.row ho7 hg7;obtain ⟨⟨_,a1,_⟩,_⟩:=Yaq X7.hbx;clear d0 d1 d2 d3 d4 f0 f1 f2 f3 f4 n5 n6 hu5)
  | (at_builtin;(refine Yao X7.own (HBD.out _ X7.since) HL2.out HCN.out hAC X7.lo.2.2.2.2.2.2 rfl _ _ rfl rfl rfl ?_);intro v9 w9 ho9 hg9 _;have X9:=X7.row (k:=A++(⟨q0,k,q2,q3,q4⟩::Ya4 qk d::C)) (by simpa using ho9) hg9;obtain ⟨la9,c9,e9,_⟩:=X9.own.at_;rw [HN2.out] at e9;subst e9;clear a1)
  | (go_at_call 82;((with_reducible refine (HJN.out _ _ _ (own_at X9.own)).mono ?_);rintro e w7 ⟨v7,rfl,ho7,hg7⟩;have X7:=X9.other hg7 (ho7.mono X9.lo.2.2.2.2.2.2);obtain ⟨la7,n7,c7,rfl,HN7⟩:=Ydz ho7;obtain ⟨⟨y0,y1,y2,y3,y4,y5,y6,y7,y8,y9⟩,kf⟩:=Yaq X7.hbx;have kf1:=kf 1 (by decide);have hs8:w7.grownBy (w7.setCell ⟨w.heap.size,1,none⟩ (.slice la7 n7 c7)) (some w.heap.size):=Yac _ _ _ _;have X8:=X7.heap (hcs':=hC E la7 n7 c7 va ln vc) hs8 (by rw [Yar X7.hbx _];rfl);obtain ⟨W8,hW8⟩:∃ W8,w7.setCell ⟨w.heap.size,1,none⟩ (.slice la7 n7 c7)=W8:=⟨_,rfl⟩;rw [hW8] at X8;obtain ⟨⟨r0,r1,r2,r3,r4,r5,r6,r7,r8,r9⟩,rf⟩:=Yaq X8.rbx;have rf0:=rf 0 (by decide);have rf1:=rf 1 (by decide);have rf2:=rf 2 (by decide);have rf3:=rf 3 (by decide);have rf4:=rf 4 (by decide);have rf5:=rf 5 (by decide);have rf6:=rf 6 (by decide);have rf7:=rf 7 (by decide);have rf8:=rf 8 (by decide);have rf9:=rf 9 (by decide);obtain ⟨⟨a0,a1,a2,a3,a4,a5,a6,a7,a8,a9⟩,_⟩:=Yaq X8.hbx;clear kf rf hs8 y0 y2 y3 y4 y5 y6 y7 y8 y9)))
 obtain ⟨P11,Q11⟩:=Yb8 (E:=E) (la:=la7) (n:=n7) (c:=c7) (va:=va) (ln:=ln) (vc:=vc) X8.rbx
 obtain ⟨W11,hW11⟩:∃ W11,Ycx W8 (w.heap.size+1) E la7 n7 c7 va ln vc=W11:=⟨_,rfl⟩
 unfold Ycx at hW11 P11 Q11
 rw [hW11] at P11 Q11 ⊢
 have G12:=Yap (Yaa (Yam X8.since _) Q11) (Nat.le_succ _)
 obtain ⟨⟨b0,b1,b2,b3,b4,b5,b6,b7,b8,b9⟩,_⟩:=Yaq P11
 have O12:OwnB W11 base 81 (.slice la7 n7 c7) bsq:=(World.ownsRow.kept X8.own Q11 (.inr (fun e=>X8.far X8.lo.2.1 e.symm))).mono (Nat.le_trans hbw X8.lo.2.2.2.2.2.1)
 refine bodyPost_ret (v:=.tuple #[Ya1 E (.slice la7 n7 c7) (fun c=>.slice (va c) (ln c) (vc c)),.int .i64 0]) (by simp [results,Tryz.results108,go_sem,Ya1,b0,b1,b2,b3,b4,b5,b6,b7,b8,b9]) rfl ?_
 exact ⟨_,rfl,⟨_,_,rfl,O12,fun c hc=>(HL.out c hc).later G12⟩,(show Yc9 (Ya1 E (.slice (some ⟨bb,off,none⟩) N c) (fun c=>.slice (va c) (ln c) (vc c))) (Ya1 E _ (fun c=>.slice (va c) (ln c) (vc c))) _ from rows_of (fun c hc=>.inl rfl)),G12⟩
set_option maxHeartbeats 16000000 in
theorem rcut11_last {w:World} {base:Nat} {v:Value} {E:Nat} {A C:List Blk} {q:Blk} {L:Nat→List Nat} (h:HvIs w base v E (A++q::C) L) (hbw:base≤w.heap.size) (hlen:(A++q::C).length≤900) (hbd:Yds (A++q::C)) {p k:Nat} (hpl:fstN (pF p) (A++q::C)=some A.length) (hn:q.n+55<18446744073709551616) (hk1:k % 16=0∧Yat q.n≤k∧k+48≤q.s) (hcut:∀ la N c vs,v=Ya1 E (.slice la N c) vs→c≤A.length+1) :
  Calls Tryz.prog 108 #[v,.int .u64 p,.int .u64 k] w fun e w'=>∃ v',e=.returned (.tuple #[v',.int .i64 0])∧HvIs w' base v' E (Ybs (A++(⟨q.off,k,q.u,q.o,q.n⟩::Ya4 (q.off+k) (q.s - k)::C))) L∧Yc9 v v' w.heap.size∧w.grownBy w' none:=by
 have hplace:=fun (V:World) (hg:w.grownBy V none)=>Ybp (h.later hg) (by omega) p
 obtain ⟨i,hi⟩:∃ i,A.length=i:=⟨_,rfl⟩
 have hz:fstZ (pF p) (A++q::C)=(i:Nat):=by unfold fstZ;rw [hpl,hi]
 rw [hz] at hplace
 obtain ⟨b,vs,hv0,ho,hl0⟩:=h.is
 obtain ⟨va,ln,vc,hvv,hl,hln⟩:=Ydi (E:=E) (b:=b) hl0
 rw [hvv] at hv0
 subst hv0
 clear hl0 hvv hz hpl
 obtain ⟨la,c,rfl,hb⟩:=ho.at_
 obtain ⟨N,hN⟩:∃ N,(A++q::C).length=N:=⟨_,rfl⟩
 have hiN:i<N:=by rw [← hN,← hi];simp
 have hqi:(A++q::C).getD i default=q:=by rw [← hi,List.getD_eq_getElem?_getD,List.getElem?_append_right (Nat.le_refl _),Nat.sub_self];rfl
 have hcN:N≤c:=by
  have:=own_cap ho
  rw [hN] at this
  exact this
 rw [hN] at hlen
 have hbq:=hbd i (by rw [hN];exact hiN)
 have hS:∀ x∈A++q::C,x.s≤10000000:=of_gS fun k hk=>by have:=(hbd k hk).2.2;omega
 have hq8:q.off<1000000∧q.s≤10000000:=by
  have h1:=hS q (by simp)
  have h2:=hbq.2.1
  unfold gO at h2
  rw [hqi] at h2
  omega
 have hjl:∀ x∈A++(⟨q.off,k,q.u,q.o,q.n⟩::Ya4 (q.off+k) (q.s - k)::C),x.s≤10000000:=fun x hx=>by
  simp only [List.mem_append,List.mem_cons] at hx
  rcases hx with hx|hx|hx|hx
  ·exact hS x (by simp [hx])
  ·rw [hx]
   show k≤_
   omega
  ·rw [hx]
   show q.s - k≤_
   omega
  ·exact hS x (by simp [hx])
 have hN2:(A++(⟨q.off,k,q.u,q.o,q.n⟩::Ya4 (q.off+k) (q.s - k)::C)).length=N+1:=by rw [← hN];simp;omega
 have hjn:=fun (V:World) (lj:Option Addr) (cj:Nat) (hj:Yb0 V lj (A++(⟨q.off,k,q.u,q.o,q.n⟩::Ya4 (q.off+k) (q.s - k)::C)))=>Yd9 (c:=cj) hj hN2 (by omega) (gS_of hjl)
 obtain ⟨bb,off,rfl,hbb,hcs⟩:=hb.cells (by omega)
 obtain ⟨c0,c1,c2,c3,c4⟩:=hcs i (by omega)
 unfold gO at c0
 unfold gS at c1
 unfold gU at c2
 unfold gW at c3
 unfold gN at c4
 rw [hqi] at c0 c1 c2 c3 c4
 have hnd:=fun V=>Ycw q.n hn V
 have hn48:=need48' q.n
 have htA:(A++q::C).take i=A:=by rw [← hi];simp
 have hdC:(A++q::C).drop (i+1)=C:=by rw [← hi];simp
 have hBT:∀ V:World,w.grownBy V none→Yb0 V (some ⟨bb,off,none⟩) A:=fun V hg=>by
  have:=(hb.later hg).take i
  rwa [htA] at this
 have hci:=hcut _ _ _ _ rfl
 rw [hi] at hci
 have hBD:∀ V:World,w.grownBy V none→Yb0 V (some ⟨bb,off,none⟩) C:=fun V hg=>⟨fun h=>by
  have:(A++q::C).length=N:=hN
  simp at this
  omega⟩
 obtain ⟨q0,q1,q2,q3,q4⟩:=q
 simp only at hjn hN2 c0 c1 c2 c3 c4 hnd hn48 hk1 hq8 ⊢
 obtain ⟨nd,hnd'⟩:∃ nd,Yat q4=nd:=⟨_,rfl⟩
 rw [hnd'] at hnd hn48 hk1
 obtain ⟨k1,k2,k3⟩:=hk1
 obtain ⟨d,hd⟩:∃ d,q1 - k=d:=⟨_,rfl⟩
 obtain ⟨qk,hqk⟩:∃ qk,q0+k=qk:=⟨_,rfl⟩
 rw [hd,hqk] at hjn hN2 ⊢
 obtain ⟨bsq,hbsq⟩:∃ bsq,Ybs (A++(⟨q0,k,q2,q3,q4⟩::Ya4 qk d::C))=bsq:=⟨_,rfl⟩
 rw [hbsq] at hjn ⊢
 have hcell:∀ V:World,w.grownBy V none→V.cell? ⟨bb,off+i*5,none⟩=some (.int .u64 q0)∧V.cell? ⟨bb,off+i*5+1,none⟩=some (.int .u64 q1)∧V.cell? ⟨bb,off+i*5+2,none⟩=some (.bool q2)∧V.cell? ⟨bb,off+i*5+3,none⟩=some (.int .i64 q3)∧V.cell? ⟨bb,off+i*5+4,none⟩=some (.int .u64 q4):=fun V hg=>by
  have hq:=hg.block bb hbb (by simp)
  exact ⟨(World.cell?_of_block (w:=w) (a:=⟨bb,off+i*5,none⟩) hq).trans c0,(World.cell?_of_block (w:=w) (a:=⟨bb,off+i*5+1,none⟩) hq).trans c1,(World.cell?_of_block (w:=w) (a:=⟨bb,off+i*5+2,none⟩) hq).trans c2,(World.cell?_of_block (w:=w) (a:=⟨bb,off+i*5+3,none⟩) hq).trans c3,(World.cell?_of_block (w:=w) (a:=⟨bb,off+i*5+4,none⟩) hq).trans c4⟩
 have HCL:=Lib.hid hcell
 have i1:¬ (i:Int)<0:=by omega
 have i2:(i:Int)<(N:Int):=by omega
 have i3:(i:Int)≤(c:Int):=by omega
 have i4:(0:Int)≤(i:Int):=by omega
 have e16:(k:Int).tmod 16=0:=by rw [Int.tmod_eq_emod_of_nonneg (by omega)];omega
 have ed:IntKind.u64.wrap ((q1:Int) - (k:Int))=(d:Nat):=by rw [IntKind.wrap_u64];omega
 have eqk:IntKind.u64.wrap ((q0:Int)+(k:Int))=(qk:Nat):=by rw [IntKind.wrap_u64];omega
 have k48:¬ (k:Int)<48:=by omega
 have knd:¬ (k:Int)<(nd:Int):=by omega
 have kq:¬ (q1:Int)<(k:Int):=by omega
 have d48:¬ (d:Int)<48:=by omega
 have hAi:0+i≤1000000:=by omega
 have hAi2:i+2≤1000000:=by omega
 have hl2:(A++[(⟨q0,k,q2,q3,q4⟩:Blk),Ya4 qk d]).length=i+2:=by rw [← hi];simp
 have hCl:C.length=N - (i+1):=by
  have:(A++⟨q0,q1,q2,q3,q4⟩::C).length=N:=hN
  simp at this
  omega
 have hAC:i+2+(N - (i+1))≤1000000:=by omega
 have HJN:=Lib.hid hjn
 have HN:=Lib.hid hN
 have HN2:=Lib.hid hN2
 have HI:=Lib.hid hi
 have HL:=Lib.hid hl
 have HBT:=Lib.hid hBT
 have HBD:=Lib.hid hBD
 have HL2:=Lib.hid hl2
 have HCN:=Lib.hid hCl
 have HcA:c=i+1:=by omega
 have hcC:c - (i+1)=0:=by omega
 have hcB:((c:Int) == (i:Int)+1)=true:=by simp;omega
 clear HcA hci
 unfold Ya1 at hplace ⊢
 rw [hN] at hplace ⊢
 clear hjn hN hN2 hi hqi hl hln ho hb hbd hbq hS hjl hbsq h hcs c0 c1 c2 c3 c4 hcell hBT hBD htA hdC hl2 hCl hd hqk hnd' hn48 hn hq8 k1 k2 k3 hcut
 go_enter Tryz.func108,Tryz.ntmps108
 go_wp2_with (first
  | (go_at_call 100;((with_reducible refine (hplace _ (Yaa (World.grownBy_alloc _ _ _) (World.grownBy_alloc _ _ _))).mono ?_);rintro e w1 ⟨rfl,hg1⟩;obtain ⟨hx1,hr1,hG1⟩:=Ydj hg1;obtain ⟨⟨_,a1,_⟩,_⟩:=Yaq hx1;clear hx1 hr1;obtain ⟨y0,y1,y2,y3,y4⟩:=HCL.out _ hG1))
  | (go_at_call 19;((with_reducible refine (hnd _).mono ?_);rintro e w2 ⟨rfl,rfl⟩;have ga:=World.grownBy_alloc w1 (.cells #[.int .u64 q0,.int .u64 q1,.bool q2,.int .i64 q3,.int .u64 q4] 81) none;have ba:=Yab w1 (.cells #[.int .u64 q0,.int .u64 q1,.bool q2,.int .i64 q3,.int .u64 q4] 81);have hub:w.heap.size+1<w1.heap.size:=(by have:=hg1.size;rw [World.size_alloc,World.size_alloc] at this;omega);obtain ⟨W2,hW2⟩:∃ W2,w1.alloc (.cells #[.int .u64 q0,.int .u64 q1,.bool q2,.int .i64 q3,.int .u64 q4] 81)=W2:=⟨_,rfl⟩;obtain ⟨ub,hub'⟩:∃ ub,w1.heap.size=ub:=⟨_,rfl⟩;rw [hW2] at ga ba ⊢;rw [hub'] at ba hub ⊢;have X2:=fr_start (Yaa hg1 ga);have hu2:ub<W2.heap.size:=lt_of_block ba;replace hG1:=Yaa hG1 ga;have HUB:=Lib.hid hub;clear hW2 hub' ga a1 y0 y1 y2 y3 y4 hub;have b2:=((World.grownBy_alloc W2 (.cells #[] 81) none).block _ (lt_of_block ba) (by simp)).trans ba;obtain ⟨d0,d1,d2,d3,d4⟩:=Yaw ba;obtain ⟨⟨_,a1,_⟩,_⟩:=Yaq X2.hbx;have HB2:=Lib.hid b2;clear ba b2))
  | (at_builtin;(refine Yao X2.own (HBT.out _ X2.since) rfl HI.out hAi X2.lo.2.2.2.2.2.2 rfl _ _ rfl rfl rfl ?_);intro v5 w5 ho5 hg5 _;have X5:=X2.row ho5 hg5;have b5:=(hg5.block _ (lt_of_block HB2.out) (X2.far hu2)).trans HB2.out;have hu5:=lt_of_block b5;have n5:¬ ub=w5.heap.size:=Nat.ne_of_lt hu5;have n6:¬ w5.heap.size=ub:=Nat.ne_of_gt hu5;obtain ⟨d0,d1,d2,d3,d4⟩:=Yaw b5;obtain ⟨f0,f1,f2,f3,f4⟩:=five_frozen b5;have HB5:=Lib.hid b5;have X6:=((X5.turn (Yac w5 ub 1 (.int .u64 k)) ⟨hu2,by have:=HUB.out;omega,by have:=HUB.out;omega,by have:=HUB.out;omega⟩).later (World.grownBy_alloc _ (.cells #[.int .u64 qk,.int .u64 d,.bool false,.int .i64 0,.int .u64 0] 81) none)).later (World.grownBy_alloc _ (.cells #[.int .u64 q0,.int .u64 k,.bool q2,.int .i64 q3,.int .u64 q4,.int .u64 qk,.int .u64 d,.bool false,.int .i64 0,.int .u64 0] 81) none);clear b5 a1)
  | (at_builtin;(refine Yao X6.own (blks_two ⟨q0,k,q2,q3,q4⟩ (Ya4 qk d) (by simp:((w5.setCell ⟨ub,1,none⟩ (.int .u64 k)).alloc (.cells #[.int .u64 qk,.int .u64 d,.bool false,.int .i64 0,.int .u64 0] 81)).heap.size=w5.heap.size+1)) HI.out rfl hAi2 X6.lo.2.2.2.2.2.2 rfl _ _ rfl rfl rfl ?_);intro v7 w7 ho7 hg7 _;have X7:=X6.row ho7 hg7;obtain ⟨⟨_,a1,_⟩,_⟩:=Yaq X7.hbx;clear d0 d1 d2 d3 d4 f0 f1 f2 f3 f4 n5 n6 hu5)
  | (at_builtin;(refine Yao X7.own (HBD.out _ X7.since) HL2.out HCN.out hAC X7.lo.2.2.2.2.2.2 rfl _ _ rfl rfl rfl ?_);intro v9 w9 ho9 hg9 _;have X9:=X7.row (k:=A++(⟨q0,k,q2,q3,q4⟩::Ya4 qk d::C)) (by simpa using ho9) hg9;obtain ⟨la9,c9,e9,_⟩:=X9.own.at_;rw [HN2.out] at e9;subst e9;clear a1)
  | (go_at_call 82;((with_reducible refine (HJN.out _ _ _ (own_at X9.own)).mono ?_);rintro e w7 ⟨v7,rfl,ho7,hg7⟩;have X7:=X9.other hg7 (ho7.mono X9.lo.2.2.2.2.2.2);obtain ⟨la7,n7,c7,rfl,HN7⟩:=Ydz ho7;obtain ⟨⟨y0,y1,y2,y3,y4,y5,y6,y7,y8,y9⟩,kf⟩:=Yaq X7.hbx;have kf1:=kf 1 (by decide);have hs8:w7.grownBy (w7.setCell ⟨w.heap.size,1,none⟩ (.slice la7 n7 c7)) (some w.heap.size):=Yac _ _ _ _;have X8:=X7.heap (hcs':=hC E la7 n7 c7 va ln vc) hs8 (by rw [Yar X7.hbx _];rfl);obtain ⟨W8,hW8⟩:∃ W8,w7.setCell ⟨w.heap.size,1,none⟩ (.slice la7 n7 c7)=W8:=⟨_,rfl⟩;rw [hW8] at X8;obtain ⟨⟨r0,r1,r2,r3,r4,r5,r6,r7,r8,r9⟩,rf⟩:=Yaq X8.rbx;have rf0:=rf 0 (by decide);have rf1:=rf 1 (by decide);have rf2:=rf 2 (by decide);have rf3:=rf 3 (by decide);have rf4:=rf 4 (by decide);have rf5:=rf 5 (by decide);have rf6:=rf 6 (by decide);have rf7:=rf 7 (by decide);have rf8:=rf 8 (by decide);have rf9:=rf 9 (by decide);obtain ⟨⟨a0,a1,a2,a3,a4,a5,a6,a7,a8,a9⟩,_⟩:=Yaq X8.hbx;clear kf rf hs8 y0 y2 y3 y4 y5 y6 y7 y8 y9)))
 obtain ⟨P11,Q11⟩:=Yb8 (E:=E) (la:=la7) (n:=n7) (c:=c7) (va:=va) (ln:=ln) (vc:=vc) X8.rbx
 obtain ⟨W11,hW11⟩:∃ W11,Ycx W8 (w.heap.size+1) E la7 n7 c7 va ln vc=W11:=⟨_,rfl⟩
 unfold Ycx at hW11 P11 Q11
 rw [hW11] at P11 Q11 ⊢
 have G12:=Yap (Yaa (Yam X8.since _) Q11) (Nat.le_succ _)
 obtain ⟨⟨b0,b1,b2,b3,b4,b5,b6,b7,b8,b9⟩,_⟩:=Yaq P11
 have O12:OwnB W11 base 81 (.slice la7 n7 c7) bsq:=(World.ownsRow.kept X8.own Q11 (.inr (fun e=>X8.far X8.lo.2.1 e.symm))).mono (Nat.le_trans hbw X8.lo.2.2.2.2.2.1)
 refine bodyPost_ret (v:=.tuple #[Ya1 E (.slice la7 n7 c7) (fun c=>.slice (va c) (ln c) (vc c)),.int .i64 0]) (by simp [results,Tryz.results108,go_sem,Ya1,b0,b1,b2,b3,b4,b5,b6,b7,b8,b9]) rfl ?_
 exact ⟨_,rfl,⟨_,_,rfl,O12,fun c hc=>(HL.out c hc).later G12⟩,(show Yc9 (Ya1 E (.slice (some ⟨bb,off,none⟩) N c) (fun c=>.slice (va c) (ln c) (vc c))) (Ya1 E _ (fun c=>.slice (va c) (ln c) (vc c))) _ from rows_of (fun c hc=>.inl rfl)),G12⟩
theorem rcut11_ok {w:World} {base:Nat} {v:Value} {E:Nat} {A C:List Blk} {q:Blk} {L:Nat→List Nat} (h:HvIs w base v E (A++q::C) L) (hbw:base≤w.heap.size) (hlen:(A++q::C).length≤900) (hbd:Yds (A++q::C)) {p k:Nat} (hpl:fstN (pF p) (A++q::C)=some A.length) (hn:q.n+55<18446744073709551616) (hk1:k % 16=0∧Yat q.n≤k∧k+48≤q.s) :
  Calls Tryz.prog 108 #[v,.int .u64 p,.int .u64 k] w fun e w'=>∃ v',e=.returned (.tuple #[v',.int .i64 0])∧HvIs w' base v' E (Ybs (A++(⟨q.off,k,q.u,q.o,q.n⟩::Ya4 (q.off+k) (q.s - k)::C))) L∧Yc9 v v' w.heap.size∧w.grownBy w' none:=by
 obtain ⟨b,vs,hv,hb,_⟩:=h.is
 obtain ⟨la,c,hbe,_⟩:=hb.at_
 rw [hbe] at hv
 have hc:∀ la' N' c' vs',v=Ya1 E (.slice la' N' c') vs'→c'=c:=fun la' N' c' vs' e=>heapV_cap (hv.symm.trans e)
 by_cases hci:A.length+1<c
 ·exact rcut11_more h hbw hlen hbd hpl hn hk1 (fun la' N' c' vs' e=>by rw [hc _ _ _ _ e];exact hci)
 ·exact rcut11_last h hbw hlen hbd hpl hn hk1 (fun la' N' c' vs' e=>by rw [hc _ _ _ _ e];omega)
end
section
def frE (bs:List Blk) (p:Nat):Nat:=match fstN (pF p) bs with|some _=>0|none=>4
def frB (bs:List Blk) (p:Nat):List Blk:=match fstN (pF p) bs with|some i=>Ybs (bs.take i++Ya4 (gO bs i) (gS bs i)::bs.drop (i+1))|none=>bs
def frL (bs:List Blk) (L:Nat→List Nat) (p:Nat):Nat→List Nat:=match fstN (pF p) bs with|some i=>lstB L (bs.getD i default)|none=>L
def ctE (bs:List Blk) (p k:Nat):Nat:=match fstN (pF p) bs with|some i=>if cutOk (bs.getD i default) k then 0 else 1|none=>4
def ctB (bs:List Blk) (p k:Nat):List Blk:=match fstN (pF p) bs with
 | some i=>if cutOk (bs.getD i default) k∧k+48≤gS bs i then Ybs (bs.take i++(⟨gO bs i,k,gU bs i,gW bs i,gN bs i⟩::Ya4 (gO bs i+k) (gS bs i - k)::bs.drop (i+1))) else bs
 | none=>bs
theorem bs_amid {bs:List Blk} {i:Nat} (hi:i<bs.length):bs=bs.take i++bs.getD i default::bs.drop (i+1):=by
 have h1:bs.getD i default=bs[i]:=by rw [List.getD_eq_getElem?_getD,List.getElem?_eq_getElem hi];rfl
 rw [h1,← List.drop_eq_getElem_cons hi,List.take_append_drop]
theorem pF_some {p:Nat} {bs:List Blk} {i:Nat} (h:fstN (pF p) bs=some i):i<bs.length∧(bs.getD i default).u=true∧((bs.getD i default).off+32) % 18446744073709551616=p:=by
 obtain ⟨h1,h2⟩:=Ydr h
 unfold pF at h2
 simp only [Bool.and_eq_true,decide_eq_true_eq] at h2
 exact ⟨h1,h2.1,h2.2⟩
section
variable {w0 w w':World} {T:Nat} {R:Option Nat} {ws:List Nat} {E p k base x y:Nat} {bs:List Blk} {L:Nat→List Nat} {v:Value}
end
end
section
section
variable {f:Nat→Nat} {E:Nat} {bs A C:List Blk} {b:Blk} {L L':Nat→List Nat} {p i k:Nat}
theorem pad16 {off:Nat} (h:off % 16=0):padN off 16=0:=by
 unfold padN
 rw [if_pos (by omega)]
end
end
end Go.Proofs.YtfhiljglfhekdaaGreat
