/-
  Texts of one layer, one behind the other: memory, contracts of the functions, and what follows of them.
  Conditions: as each theorem says.
-/
import Derived.Test.YtfhiljglfhekdaaGreatLCac
set_option linter.unusedVariables false
set_option linter.unusedSimpArgs false
set_option maxRecDepth 100000
namespace Go.Proofs.YtfhiljglfhekdaaGreat
open Go.RowKit
section
set_option maxHeartbeats 16000000 in
theorem rtake10_last0 {w:World} {base:Nat} {v:Value} {E:Nat} {bs:List Blk} {L:Nat→List Nat} (h:HvIs w base v E bs L) (hbw:base≤w.heap.size) (hlen:bs.length≤1000) (hbd:Yds bs) {n a i owner:Nat} (ha:Ybr a) (hn:n≤18446744073709551560) (how:owner≤8) (hfi:fitM bs n a=some i) (hL:∀ c,(L c).length≤1000) (hcut:∀ la N c vs,v=Ya1 E (.slice la N c) vs→c≤i+1) (h0:owner=0) :
  Calls Tryz.prog 76 #[v,.int .i64 owner,.int .u64 n,.int .u64 a] w fun e w'=>∃ v',e=.returned (.tuple #[v',.int .u64 (gO bs i+padN (gO bs i) a+32:Nat),.int .i64 0])∧HvIs w' base v' E (takeB bs i (padN (gO bs i) a) (Yat n) owner n) (Ydl L owner (gO bs i+padN (gO bs i) a))∧Yc9 v v' w.heap.size∧w.grownBy w' none:=by
 have hfit:=fun (V:World) (hg:w.grownBy V none)=>Yes (h.later hg) hlen hbd ha hn
 rw [hfi] at hfit
 have hbi:=Yd0 (fitB (Yat n) a) bs bs.length
 rw [show Yc0 (fitB (Yat n) a) bs bs.length=some i from hfi] at hbi
 obtain ⟨hiN,hpi,right⟩:=hbi
 rw [fitB_at] at hpi
 obtain ⟨hO16,hOlt,hSlt⟩:=hbd i hiN
 simp only [Bool.and_eq_true,decide_eq_true_eq,Bool.not_eq_true'] at hpi
 obtain ⟨⟨hu,hns⟩,hpads⟩:=hpi
 obtain ⟨b,vs,hv0,ho,hl0⟩:=h.is
 obtain ⟨va,ln,vc,hvv,hl,hln⟩:=Ydi (E:=E) (b:=b) hl0
 rw [hvv] at hv0
 subst hv0
 clear hl0 hvv
 obtain ⟨la,c,rfl,hb⟩:=ho.at_
 simp only [fitV] at hfit
 obtain ⟨N,hN⟩:∃ N,bs.length=N:=⟨_,rfl⟩
 rw [hN] at hlen hiN
 have hcap:N≤c:=by rw [← hN];exact own_cap ho
 obtain ⟨bb,off,rfl,hbb,hcs⟩:=hb.cells (by omega)
 obtain ⟨c0,c1,c2,c3,c4⟩:=hcs i (by omega)
 have hbi:bs.getD i default=⟨gO bs i,gS bs i,gU bs i,gW bs i,gN bs i⟩:=rfl
 unfold takeB cutB
 rw [hbi]
 obtain ⟨x,hx⟩:∃ x,gO bs i=x:=⟨_,rfl⟩
 obtain ⟨s,hs⟩:∃ s,gS bs i=s:=⟨_,rfl⟩
 obtain ⟨o,hoo⟩:∃ o,gW bs i=o:=⟨_,rfl⟩
 obtain ⟨m,hm⟩:∃ m,gN bs i=m:=⟨_,rfl⟩
 obtain ⟨nd,hnd⟩:∃ nd,Yat n=nd:=⟨_,rfl⟩
 obtain ⟨P,hP⟩:∃ P,padN (gO bs i) a=P:=⟨_,rfl⟩
 rw [hP,hnd] at hfit
 rw [hP,hs] at hpads
 rw [hnd,hs] at hns
 rw [hP,hnd,hx,hs,hu,hoo,hm]
 rw [hnd] at hpads
 rw [hx] at hO16 hOlt c0
 rw [hs] at hSlt c1
 rw [hu] at c2
 rw [hoo] at c3
 rw [hm] at c4
 rw [hN] at hfit
 obtain ⟨d,hd⟩:∃ d,s - P=d:=⟨_,rfl⟩
 obtain ⟨r,hr⟩:∃ r,d - nd=r:=⟨_,rfl⟩
 have e1:IntKind.u64.wrap ((s:Int) - (P:Int))=(d:Nat):=by rw [IntKind.wrap_u64];omega
 have e2:IntKind.u64.wrap ((d:Int) - (nd:Int))=(r:Nat):=by rw [IntKind.wrap_u64];omega
 obtain ⟨xp,hxp⟩:∃ q,x+P=q:=⟨_,rfl⟩
 have e3:IntKind.u64.wrap ((x:Int)+(P:Int))=(xp:Nat):=by rw [IntKind.wrap_u64];omega
 have e4:IntKind.u64.wrap ((nd:Int)+(r:Int))=(d:Nat):=by rw [IntKind.wrap_u64];omega
 obtain ⟨xn,hxn⟩:∃ q,xp+nd=q:=⟨_,rfl⟩
 have e5:IntKind.u64.wrap ((xp:Int)+(nd:Int))=(xn:Nat):=by rw [IntKind.wrap_u64];omega
 obtain ⟨xq,hxq⟩:∃ q,xp+32=q:=⟨_,rfl⟩
 have e6:IntKind.u64.wrap ((xp:Int)+32)=(xq:Nat):=by rw [IntKind.wrap_u64];omega
 rw [hxp,hd,hr,hxn,hxq]
 have i1:(0:Int)≤(i:Int):=by omega
 have i2:(i:Int)<(N:Int):=by omega
 have o1:¬ (owner:Int)<0:=by omega
 have o2:¬ (8:Int)<(owner:Int):=by omega
 have i3:(i:Int)≤(c:Int):=by omega
 have HBL:=Lib.hid (fun (V:World) (hg:w.grownBy V none)=>hb.later hg)
 have hcell:∀ V:World,w.grownBy V none→V.cell? ⟨bb,off+i*5,none⟩=some (.int .u64 x)∧V.cell? ⟨bb,off+i*5+1,none⟩=some (.int .u64 s)∧V.cell? ⟨bb,off+i*5+2,none⟩=some (.bool false)∧V.cell? ⟨bb,off+i*5+3,none⟩=some (.int .i64 o)∧V.cell? ⟨bb,off+i*5+4,none⟩=some (.int .u64 m):=fun V hg=>by
  have hq:=hg.block bb hbb (by simp)
  exact ⟨(World.cell?_of_block (w:=w) (a:=⟨bb,off+i*5,none⟩) hq).trans c0,(World.cell?_of_block (w:=w) (a:=⟨bb,off+i*5+1,none⟩) hq).trans c1,(World.cell?_of_block (w:=w) (a:=⟨bb,off+i*5+2,none⟩) hq).trans c2,(World.cell?_of_block (w:=w) (a:=⟨bb,off+i*5+3,none⟩) hq).trans c3,(World.cell?_of_block (w:=w) (a:=⟨bb,off+i*5+4,none⟩) hq).trans c4⟩
 have HCL:=Lib.hid hcell
 have HN:=Lib.hid hN
 have HL:=Lib.hid hl
 have HLL:=Lib.hid hL
 have HLN:=Lib.hid hln
 have HX:=Lib.hid hx
 have hti:(bs.take i).length=i:=by rw [List.length_take];omega
 have htd:(bs.drop (i+1)).length=N - (i+1):=by rw [List.length_drop,hN]
 have HE:∀ (la:Option Addr) (V:World),c=i+1→Yb0 V la (bs.drop (i+1)):=fun la V e=>⟨fun h=>absurd h (by rw [List.length_drop,hN];omega)⟩
 have hi8:i+1+(N - (i+1))≤1000000:=by omega
 have hi6:0+i≤1000000:=by omega
 have hi7:i+1≤1000000:=by omega
 have hbx:∀ (ob:Obj) (V:World),((w.alloc (.cells #[.int .u64 E,.slice (some ⟨bb,off,none⟩) N c,.slice (va 0) (ln 0) (vc 0),.slice (va 1) (ln 1) (vc 1),.slice (va 2) (ln 2) (vc 2),.slice (va 3) (ln 3) (vc 3),.slice (va 4) (ln 4) (vc 4),.slice (va 5) (ln 5) (vc 5),.slice (va 6) (ln 6) (vc 6),.slice (va 7) (ln 7) (vc 7)] 31)).alloc ob).grownBy V none→V.heap[w.heap.size]?=some (.cells #[.int .u64 E,.slice (some ⟨bb,off,none⟩) N c,.slice (va 0) (ln 0) (vc 0),.slice (va 1) (ln 1) (vc 1),.slice (va 2) (ln 2) (vc 2),.slice (va 3) (ln 3) (vc 3),.slice (va 4) (ln 4) (vc 4),.slice (va 5) (ln 5) (vc 5),.slice (va 6) (ln 6) (vc 6),.slice (va 7) (ln 7) (vc 7)] 31 (0,0))∧w.grownBy V none∧V.cell? ⟨w.heap.size,1,none⟩=some (.slice (some ⟨bb,off,none⟩) N c)∧V.heap[w.heap.size+1]?=some ob:=fun ob V hg=>by
  have h1:=(hg.block w.heap.size (by simp;omega) (by simp)).trans ((Below.heap_alloc _ _ _ (by simp)).trans (Yab w (.cells #[.int .u64 E,.slice (some ⟨bb,off,none⟩) N c,.slice (va 0) (ln 0) (vc 0),.slice (va 1) (ln 1) (vc 1),.slice (va 2) (ln 2) (vc 2),.slice (va 3) (ln 3) (vc 3),.slice (va 4) (ln 4) (vc 4),.slice (va 5) (ln 5) (vc 5),.slice (va 6) (ln 6) (vc 6),.slice (va 7) (ln 7) (vc 7)] 31)))
  exact ⟨h1,Yaa (World.grownBy_alloc _ _ _) (Yaa (World.grownBy_alloc _ _ _) hg),by simp [World.cell?,h1],(hg.block (w.heap.size+1) (by simp) (by simp)).trans (by have:=Yab (w.alloc (.cells #[.int .u64 E,.slice (some ⟨bb,off,none⟩) N c,.slice (va 0) (ln 0) (vc 0),.slice (va 1) (ln 1) (vc 1),.slice (va 2) (ln 2) (vc 2),.slice (va 3) (ln 3) (vc 3),.slice (va 4) (ln 4) (vc 4),.slice (va 5) (ln 5) (vc 5),.slice (va 6) (ln 6) (vc 6),.slice (va 7) (ln 7) (vc 7)] 31)) ob;rwa [World.size_alloc] at this)⟩
 unfold Ya1 at hfit ⊢
 rw [hN]
 clear hln ho hcs hbi hcell c0 c1 c2 c3 c4 hb hN hl hL hx hs hoo hm hnd hP hd hr hxp hxn hxq hbd hfi hpads hns hO16 h right
 have hci:=hcut _ _ _ _ rfl
 clear hcut
 have hfr1:=fun V=>Ydo x P V
 have hfr2:=fun V=>Ydo xn r V
 have HcA0:c=i+1:=by omega
 have HcA:=Lib.hid HcA0
 clear HcA0
 have hcC:c - (i+1)=0:=by omega
 have hcB:((c:Int) == (i:Int)+1)=true:=by simp;omega
 have h0':¬ (0:Int)<(owner:Int):=by omega
 have H0:=Lib.hid h0
 clear h0
 by_cases hP0:P=0
 all_goals by_cases hr48:r<48
 all_goals first
  | (
   have hP0':¬ (0:Int)<(P:Int):=by omega
   rw [if_pos hP0]
   have HP0:=Lib.hid hP0
   clear hP0
   rw [if_pos hr48,if_pos hr48]
   have hr48':(r:Int)<48:=by omega
   have hr48'':¬ (48:Int)≤(r:Int):=by omega
   clear hr48
   have hlU:(bs.take i).length=i:=hti
   have hiU:i+1≤1000000:=by omega
   have hlG:(bs.take i++[(⟨xp,d,true,owner,n⟩:Blk)]).length=i+1:=by simp [hti]
   have hiG:i+1+1≤1000000:=by omega
   have hlT:(bs.take i++[(⟨xp,d,true,owner,n⟩:Blk)]).length=i+1:=by simp [hti]
   have hi8:i+1+(N - (i+1))≤1000000:=by omega)
  | (
   have hP0':¬ (0:Int)<(P:Int):=by omega
   rw [if_pos hP0]
   have HP0:=Lib.hid hP0
   clear hP0
   rw [if_neg hr48,if_neg hr48]
   have hr48':¬ (r:Int)<48:=by omega
   have hr48'':(48:Int)≤(r:Int):=by omega
   clear hr48
   have hlU:(bs.take i).length=i:=hti
   have hiU:i+1≤1000000:=by omega
   have hlG:(bs.take i++[(⟨xp,nd,true,owner,n⟩:Blk)]).length=i+1:=by simp [hti]
   have hiG:i+1+1≤1000000:=by omega
   have hlT:(bs.take i++[(⟨xp,nd,true,owner,n⟩:Blk)]++[Ya4 xn r]).length=i+2:=by simp [hti]
   have hi8:i+2+(N - (i+1))≤1000000:=by omega)
  | (
   have hP0':(0:Int)<(P:Int):=by omega
   rw [if_neg hP0]
   have HP0:=Lib.hid hP0
   clear hP0
   rw [if_pos hr48,if_pos hr48]
   have hr48':(r:Int)<48:=by omega
   have hr48'':¬ (48:Int)≤(r:Int):=by omega
   clear hr48
   have hlU:(bs.take i++[Ya4 x P]).length=i+1:=by simp [hti]
   have hiU:i+1+1≤1000000:=by omega
   have hlG:(bs.take i++[Ya4 x P]++[(⟨xp,d,true,owner,n⟩:Blk)]).length=i+2:=by simp [hti]
   have hiG:i+2+1≤1000000:=by omega
   have hlT:(bs.take i++[Ya4 x P]++[(⟨xp,d,true,owner,n⟩:Blk)]).length=i+2:=by simp [hti]
   have hi8:i+2+(N - (i+1))≤1000000:=by omega)
  | (
   have hP0':(0:Int)<(P:Int):=by omega
   rw [if_neg hP0]
   have HP0:=Lib.hid hP0
   clear hP0
   rw [if_neg hr48,if_neg hr48]
   have hr48':¬ (r:Int)<48:=by omega
   have hr48'':(48:Int)≤(r:Int):=by omega
   clear hr48
   have hlU:(bs.take i++[Ya4 x P]).length=i+1:=by simp [hti]
   have hiU:i+1+1≤1000000:=by omega
   have hlG:(bs.take i++[Ya4 x P]++[(⟨xp,nd,true,owner,n⟩:Blk)]).length=i+2:=by simp [hti]
   have hiG:i+2+1≤1000000:=by omega
   have hlT:(bs.take i++[Ya4 x P]++[(⟨xp,nd,true,owner,n⟩:Blk)]++[Ya4 xn r]).length=i+3:=by simp [hti]
   have hi8:i+3+(N - (i+1))≤1000000:=by omega)
 all_goals
  go_enter Tryz.func76,Tryz.ntmps76
  go_wp2_with (first|(go_at_call 105;go_must ((with_reducible refine (hfit _ (Yaa (World.grownBy_alloc _ _ _) (World.grownBy_alloc _ _ _))).mono ?_);rintro e w1 ⟨rfl,hg1⟩;obtain ⟨hx1,hG1,y5,hr1⟩:=hbx _ _ hg1;obtain ⟨y0,y1,y2,y3,y4⟩:=HCL.out _ hG1;have hlt1:=lt_of_block hx1;have n1:¬ w1.heap.size=w.heap.size:=Nat.ne_of_gt hlt1;have n2:¬ w.heap.size=w1.heap.size:=Nat.ne_of_lt hlt1;have n3:¬ w1.heap.size+1=w.heap.size:=Nat.ne_of_gt (Nat.lt_succ_of_lt hlt1);have n4:¬ w.heap.size=w1.heap.size+1:=Nat.ne_of_lt (Nat.lt_succ_of_lt hlt1);have X2:=tk_start (bcs:=#[.int .u64 x,.int .u64 s,.bool false,.int .i64 o,.int .u64 m]) hG1 hx1 hr1))|(at_builtin;(refine Yao X2.own ((HBL.out _ X2.since).take i) rfl hti hi6 X2.size rfl _ _ rfl rfl rfl ?_);intro v5 w5 ho5 hg5 _;have X5:=X2.app ho5 hg5;obtain ⟨nr1,nr2,nr3,nr4⟩:=X5.nr;obtain ⟨z0,z1,z2,z3,z4⟩:=Yaw X5.bbx;have y6:w5.cell? ⟨w.heap.size,1,none⟩=some (.slice (some ⟨bb,off,none⟩) N c):=(by simp [World.cell?,X5.hbx]);clear X2 y0 y1 y2 y3 y4 y5 n1 n2 n3 n4)|(at_builtin;(refine Yao ((X5.used (ucs:=#[.int .u64 xp,.int .u64 d,.bool true,.int .i64 owner,.int .u64 n])).later (World.grownBy_alloc _ _ _)).tk.own (Ydy ⟨xp,d,true,owner,n⟩ (World.size_alloc _ _) (Yag _ none)) hlU rfl hiU ((X5.used (ucs:=#[.int .u64 xp,.int .u64 d,.bool true,.int .i64 owner,.int .u64 n])).later (World.grownBy_alloc _ _ _)).tk.size rfl _ _ rfl rfl rfl ?_);intro v7 w7 ho7 hg7 hv7;have X7:=((X5.used (ucs:=#[.int .u64 xp,.int .u64 d,.bool true,.int .i64 owner,.int .u64 n])).later (World.grownBy_alloc _ _ _)).app ho7 hg7 hv7;obtain ⟨p0,p1,p2,p3,p4⟩:=Yaw X7.ubx;have y7:w7.cell? ⟨w.heap.size,1,none⟩=some (.slice (some ⟨bb,off,none⟩) N c):=(by simp [World.cell?,X7.tk.hbx]);clear X5 z0 z1 z2 z3 z4 y6)|(at_builtin;(refine Yao X7.tk.own (HE (some ⟨bb,off,none⟩) _ HcA.out) hlT htd hi8 X7.tk.size rfl _ _ rfl rfl rfl ?_);intro v9 w9 ho9 hg9 hv9;have X9:=X7.app ho9 hg9 hv9;obtain ⟨la9,n9,c9,rfl,HN9⟩:=Ydz ho9;obtain ⟨⟨k0,k1,k2,k3,k4,k5,k6,k7,k8,k9⟩,kf⟩:=Yaq X9.tk.hbx;have kf1:=kf 1 (by decide);obtain ⟨p0,_,_,_,_⟩:=Yaw X9.ubx;clear X7 y7)|(at_builtin;(refine Yao ((X5.used (ucs:=#[.int .u64 xp,.int .u64 nd,.bool true,.int .i64 owner,.int .u64 n])).later (World.grownBy_alloc _ _ _)).tk.own (Ydy ⟨xp,nd,true,owner,n⟩ (World.size_alloc _ _) (Yag _ none)) hlU rfl hiU ((X5.used (ucs:=#[.int .u64 xp,.int .u64 nd,.bool true,.int .i64 owner,.int .u64 n])).later (World.grownBy_alloc _ _ _)).tk.size rfl _ _ rfl rfl rfl ?_);intro v7 w7 ho7 hg7 hv7;have X7:=((X5.used (ucs:=#[.int .u64 xp,.int .u64 nd,.bool true,.int .i64 owner,.int .u64 n])).later (World.grownBy_alloc _ _ _)).app ho7 hg7 hv7;obtain ⟨p0,p1,p2,p3,p4⟩:=Yaw X7.ubx;have y7:w7.cell? ⟨w.heap.size,1,none⟩=some (.slice (some ⟨bb,off,none⟩) N c):=(by simp [World.cell?,X7.tk.hbx]);clear X5 z0 z1 z2 z3 z4 y6)|(go_at_call 106;((with_reducible refine (hfr2 _).mono ?_);rintro e w8 ⟨rfl,hg8⟩;have X8:=X7.later hg8;clear X7 p0 p1 p2 p3 p4 y7))|(at_builtin;(refine Yao (X8.later (World.grownBy_alloc _ _ _)).tk.own (Ydy (Ya4 xn r) rfl (Yag _ none)) hlG rfl hiG (X8.later (World.grownBy_alloc _ _ _)).tk.size rfl _ _ rfl rfl rfl ?_);intro v8 w8b ho8 hg8b hv8;have X7:=(X8.later (World.grownBy_alloc _ _ _)).app ho8 hg8b hv8;obtain ⟨p0,p1,p2,p3,p4⟩:=Yaw X7.ubx;have y7:w8b.cell? ⟨w.heap.size,1,none⟩=some (.slice (some ⟨bb,off,none⟩) N c):=(by simp [World.cell?,X7.tk.hbx]);clear X8)|(go_at_call 106;((with_reducible refine (hfr1 _).mono ?_);rintro e w6 ⟨rfl,hg6⟩;have X6:=X5.later hg6;clear X5 z0 z1 z2 z3 z4 y6 nr1 nr2 nr3 nr4))|(at_builtin;(refine Yao (X6.later (World.grownBy_alloc _ _ _)).own (Ydy (Ya4 x P) rfl (Yag _ none)) hti rfl hi7 (X6.later (World.grownBy_alloc _ _ _)).size rfl _ _ rfl rfl rfl ?_);intro v6 w5 ho6 hg6b _;have X5:=(X6.later (World.grownBy_alloc _ _ _)).app ho6 hg6b;obtain ⟨nr1,nr2,nr3,nr4⟩:=X5.nr;obtain ⟨z0,z1,z2,z3,z4⟩:=Yaw X5.bbx;have y6:w5.cell? ⟨w.heap.size,1,none⟩=some (.slice (some ⟨bb,off,none⟩) N c):=(by simp [World.cell?,X5.hbx]);clear X6))
  obtain ⟨W10,hW10⟩:∃ W10,w9.setCell ⟨w.heap.size,1,none⟩ (.slice la9 n9 c9)=W10:=⟨_,rfl⟩
  have hs10:w9.grownBy W10 (some w.heap.size):=by rw [← hW10];exact Yac _ _ _ _
  have H10:W10.heap[w.heap.size]?=some (.cells #[.int .u64 E,.slice la9 n9 c9,.slice (va 0) (ln 0) (vc 0),.slice (va 1) (ln 1) (vc 1),.slice (va 2) (ln 2) (vc 2),.slice (va 3) (ln 3) (vc 3),.slice (va 4) (ln 4) (vc 4),.slice (va 5) (ln 5) (vc 5),.slice (va 6) (ln 6) (vc 6),.slice (va 7) (ln 7) (vc 7)] 31 (0,0)):=by rw [← hW10,Yar X9.tk.hbx _];rfl
  have R10:=(hs10.block _ (lt_of_block X9.tk.rbx) (by simp)).trans X9.tk.rbx
  have U10:=(hs10.block _ (lt_of_block X9.ubx) (fun e=>nr3 (by injection e))).trans X9.ubx
  have G10:=Yap (Yaa (Yam X9.tk.since _) hs10) (Nat.le_refl _)
  rw [hW10]
  obtain ⟨⟨a0,a1,a2,a3,a4,a5,a6,a7,a8,a9⟩,_⟩:=Yaq H10
  obtain ⟨_,rf⟩:=Yaq R10
  obtain ⟨u0,_,_,_,_⟩:=Yaw U10
  have rf0:=rf 0 (by decide)
  have rf1:=rf 1 (by decide)
  have rf2:=rf 2 (by decide)
  have rf3:=rf 3 (by decide)
  have rf4:=rf 4 (by decide)
  have rf5:=rf 5 (by decide)
  have rf6:=rf 6 (by decide)
  have rf7:=rf 7 (by decide)
  have rf8:=rf 8 (by decide)
  have rf9:=rf 9 (by decide)
  go_region_held3 (fun w'=>w'.cell? ⟨w.heap.size,0,none⟩=some (.int .u64 E)∧w'.cell? ⟨w.heap.size,1,none⟩=some (.slice la9 n9 c9)∧w'.cell? ⟨w.heap.size,2,none⟩=some (.slice (va 0) (ln 0) (vc 0))∧w'.cell? ⟨w.heap.size,3,none⟩=some (.slice (va 1) (ln 1) (vc 1))∧w'.cell? ⟨w.heap.size,4,none⟩=some (.slice (va 2) (ln 2) (vc 2))∧w'.cell? ⟨w.heap.size,5,none⟩=some (.slice (va 3) (ln 3) (vc 3))∧w'.cell? ⟨w.heap.size,6,none⟩=some (.slice (va 4) (ln 4) (vc 4))∧w'.cell? ⟨w.heap.size,7,none⟩=some (.slice (va 5) (ln 5) (vc 5))∧w'.cell? ⟨w.heap.size,8,none⟩=some (.slice (va 6) (ln 6) (vc 6))∧w'.cell? ⟨w.heap.size,9,none⟩=some (.slice (va 7) (ln 7) (vc 7))∧w'.cell? ⟨w5.heap.size,0,none⟩=some (.int .u64 xp)) (go_keep) (fail)
  obtain ⟨P11,Q11⟩:=ten_put (y0:=.int .u64 E) (y1:=.slice la9 n9 c9) (y2:=.slice (va 0) (ln 0) (vc 0)) (y3:=.slice (va 1) (ln 1) (vc 1)) (y4:=.slice (va 2) (ln 2) (vc 2)) (y5:=.slice (va 3) (ln 3) (vc 3)) (y6:=.slice (va 4) (ln 4) (vc 4)) (y7:=.slice (va 5) (ln 5) (vc 5)) (y8:=.slice (va 6) (ln 6) (vc 6)) (y9:=.slice (va 7) (ln 7) (vc 7)) R10
  obtain ⟨W11,hW11⟩:∃ W11,((((((((((W10.setCell ⟨w.heap.size+1,0,none⟩ (.int .u64 E)).setCell ⟨w.heap.size+1,1,none⟩ (.slice la9 n9 c9)).setCell ⟨w.heap.size+1,2,none⟩ (.slice (va 0) (ln 0) (vc 0))).setCell ⟨w.heap.size+1,3,none⟩ (.slice (va 1) (ln 1) (vc 1))).setCell ⟨w.heap.size+1,4,none⟩ (.slice (va 2) (ln 2) (vc 2))).setCell ⟨w.heap.size+1,5,none⟩ (.slice (va 3) (ln 3) (vc 3))).setCell ⟨w.heap.size+1,6,none⟩ (.slice (va 4) (ln 4) (vc 4))).setCell ⟨w.heap.size+1,7,none⟩ (.slice (va 5) (ln 5) (vc 5))).setCell ⟨w.heap.size+1,8,none⟩ (.slice (va 6) (ln 6) (vc 6))).setCell ⟨w.heap.size+1,9,none⟩ (.slice (va 7) (ln 7) (vc 7)))=W11:=⟨_,rfl⟩
  rw [hW11] at P11 Q11 ⊢
  have hd11:W11.grownBy W11.drew none:=Yah (Yag _ none)
  have P12:=(hd11.block _ (lt_of_block P11) (by simp)).trans P11
  have G12:=Yaa (Yap (Yaa (Yam G10 _) Q11) (Nat.le_succ _)) hd11
  obtain ⟨⟨b0,b1,b2,b3,b4,b5,b6,b7,b8,b9⟩,_⟩:=Yaq P12
  have O12:OwnB W11.drew base 81 (.slice la9 n9 c9) _:=(Ydm (World.ownsRow.kept (World.ownsRow.kept X9.tk.own hs10 (.inr (fun e=>X9.tk.far X9.tk.lo.1 e.symm))) Q11 (.inr (fun e=>X9.tk.far X9.tk.lo.2.1 e.symm))) hd11).mono (Nat.le_trans hbw X9.tk.lo.2.2.2.1)
  clear a0 a1 a2 a3 a4 a5 a6 a7 a8 a9 rf0 rf1 rf2 rf3 rf4 rf5 rf6 rf7 rf8 rf9 hW11 hW10 u0 k0 k1 k2 k3 k4 k5 k6 k7 k8 k9 p0
  go_wp2
  refine bodyPost_ret (v:=.tuple #[Ya1 E (.slice la9 n9 c9) (fun c=>.slice (va c) (ln c) (vc c)),.int .u64 xq,.int .i64 0]) (by simp [results,Tryz.results76,go_sem,Ya1,b0,b1,b2,b3,b4,b5,b6,b7,b8,b9]) rfl ?_
  refine ⟨_,rfl,⟨_,_,rfl,?_,fun c hc=>?_⟩,(show Yc9 (Ya1 E (.slice (some ⟨bb,off,none⟩) N c) (fun c=>.slice (va c) (ln c) (vc c))) (Ya1 E _ (fun c=>.slice (va c) (ln c) (vc c))) _ from rows_of (fun c hc=>.inl rfl)),G12⟩
  ·simpa using O12
  ·unfold Ydl
   rw [if_pos H0.out]
   exact (HL.out c hc).later G12
end
end Go.Proofs.YtfhiljglfhekdaaGreat
