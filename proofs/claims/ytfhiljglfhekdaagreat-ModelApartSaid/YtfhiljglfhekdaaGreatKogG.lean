/-
  Texts of one layer, one behind the other: memory, contracts of the functions, and what follows of them.
  Conditions: as each theorem says.
-/
import Derived.Test.YtfhiljglfhekdaaGreatLZza
import Derived.Test.YtfhiljglfhekdaaGreatLKfd
import Derived.Laws.StructEq
import Derived.Deep.RegionHeld3
set_option linter.unusedVariables false
set_option linter.unusedSimpArgs false
set_option maxRecDepth 100000
namespace Go.Proofs.YtfhiljglfhekdaaGreat
open Go.RowKit
section
theorem split_rest {α:Type} {R:α→World→Prop} {G:α→World→Prop} {goal:Prop} (h1:(∀ b W,R b W→G b W)→goal) (h2:∀ b W,R b W→G b W):goal:=h1 h2
theorem split_rest3 {R:Nat→Nat→Array Value→World→Prop} {G:Nat→Nat→Array Value→World→Prop} {goal:Prop} (h1:(∀ b c s W,R b c s W→G b c s W)→goal) (h2:∀ b c s W,R b c s W→G b c s W):goal:=h1 h2
theorem Yeg {P:Program} {md:Region.Mode} {ops:Array Oper} {Q:Exit→Act→World→Prop} {S:World→Prop} {fuel:Nat} {l l':Array Bool} {a:Act} {w:World} (h:l=l') (hg:wpAnyH P md ops Q S fuel l' a w):wpAnyH P md ops Q S fuel l a w:=by rw [h];exact hg
theorem results_tct {w:World} {fn:Func} {p q r:Tmp} {ty t:TypeId} {x y:Value} (h:fn.results=#[.tmp p,.cell q ty,.tmp r]) (tmps:Array Value) {g:Nat} {cs:Array Value} {d:TypeDesc}
  (hp:tmps.getD p undef=x) (hq:tmps.getD q undef=.pointer (some ⟨g,0,none⟩)) (hr:tmps.getD r undef=y) (hg:w.heap[g]?=some (.cells cs t (0,0)))
  (hu:Tryz.prog.underlying ty=some d) (hd:d.isRow=true) (hi:(Tryz.prog.info? ty).map (·.size)=some cs.size) :
  (results fn tmps).run Tryz.prog w=.ok (.tuple #[x,.agg cs,y]) w:=by
 have hp':tmps[p]?.getD undef=x:=by simpa using hp
 have hq':tmps[q]?.getD undef=.pointer (some ⟨g,0,none⟩):=by simpa using hq
 have hr':tmps[r]?.getD undef=y:=by simpa using hr
 have l1:=run_loadVar_mid w g 0 ty cs.toList d (fun j v hj=>by rw [Nat.zero_add];exact Yas hg (by simpa using hj)) hu hd (by simpa using hi)
 rw [Array.toArray_toList] at l1
 simp [results,h,hp',hq',hr',asAddr,l1]
theorem info_call:(Tryz.prog.info? 43).map (·.size)=some 11:=by kernel_rfl
theorem exec_cells {S:World→Prop} {o:Oper} {a:Act} (ty:TypeId) (x:Operand) (ho:o.op=.load ty x)
  (b k:Nat) (hx:a.eval x=.pointer (some ⟨b,k,none⟩)) (ps:Array Value) (hS:∀ W,S W→∀ j v,ps[j]?=some v→W.cell? ⟨b,k+j,none⟩=some v) (d:TypeDesc)
  (hu:Tryz.prog.underlying ty=some d) (hd:d.isRow=true) (hi:(Tryz.prog.info? ty).map (·.size)=some ps.size):∀ W,S W→(execOp a.eval o).run Tryz.prog W=.ok (.value (.agg ps)) W:=by
 intro W hW
 have h:=run_loadVar_mid (P:=Tryz.prog) W b k ty ps.toList d (fun j v hj=>hS W hW j v (by simpa using hj)) hu hd (by simpa using hi)
 rw [Array.toArray_toList] at h
 unfold execOp
 simp only [ho,hx,Instr.loadAt,Instr.sureAddr,Sem.run_bind,Sem.run_pure,Result.andThen_ok,h]
def attM:OpM:=⟨15,0,0,0,0,0,0,⟨#[]⟩⟩
theorem att_ok:OpOk attM:=⟨by decide,by decide,by decide,by decide,by decide,by decide⟩
theorem att_lit:opC attM=#[.int .i64 15,.int .u64 0,.int .u64 0,.int .u64 0,.int .u64 0,.int .u64 0,.int .i64 0,.string ⟨#[]⟩]:=by simp [opC,attM]
structure RdN (w0:World) (x r P base K:Nat) (S:MS) (cs cs':Array Value) (W:World):Prop where
 pl:Pl w0 P base (.agg cs') K S W
 bx:W.heap[x]?=some (.cells cs 36 (0,0))
 rs:W.heap[r]?=some (.cells sZ 36 (0,0))
 s0:cs.size=21
 t0:cs'.size=21
 t1:cs'.all (·.oneCell')=true
 lx:w0.heap.size≤x
 lr:w0.heap.size≤r
 ne:x≠r
structure RdH (w0:World) (x r P base K:Nat) (S S':MS) (cs:Array Value) (W:World):Prop where
 pl:PlH w0 P base (.agg cs) K S S' W
 bx:W.heap[x]?=some (.cells cs 36 (0,0))
 rs:W.heap[r]?=some (.cells sZ 36 (0,0))
 s0:cs.size=21
 lx:w0.heap.size≤x
 lr:w0.heap.size≤r
 ne:x≠r
structure RdK (w0:World) (x r P base K:Nat) (S:MS) (c:Int) (cs:Array Value) (W:World):Prop where
 pl:PlK w0 P base (.agg cs) K S c W
 bx:W.heap[x]?=some (.cells cs 36 (0,0))
 rs:W.heap[r]?=some (.cells sZ 36 (0,0))
 s0:cs.size=21
 lx:w0.heap.size≤x
 lr:w0.heap.size≤r
 ne:x≠r
section
variable {w0 W W1:World} {x r P base K b:Nat} {S S':MS} {cs cs' c2:Array Value} {c:Int} {y:OpM} {e p q:Nat} {t:TypeId}
theorem Yan {o:Obj} (hb:W.heap[b]?=some o) (hg:W.grownBy W1 none):W1.heap[b]?=some o:=(hg.block _ (lt_of_block hb) (by simp)).trans hb
theorem Ya3 {o:Obj} {g:Nat} (hb:W.heap[b]?=some o) (hg:W.grownBy W1 (some g)) (hne:b≠g):W1.heap[b]?=some o:=(hg.block _ (lt_of_block hb) (fun h=>hne (by injection h))).trans hb
theorem RdN.later (h:RdN w0 x r P base K S cs cs' W) (hg:W.grownBy W1 none):RdN w0 x r P base K S cs cs' W1:=⟨h.pl.later hg,Yan h.bx hg,Yan h.rs hg,h.s0,h.t0,h.t1,h.lx,h.lr,h.ne⟩
theorem RdH.later (h:RdH w0 x r P base K S S' cs W) (hg:W.grownBy W1 none):RdH w0 x r P base K S S' cs W1:=⟨h.pl.later hg,Yan h.bx hg,Yan h.rs hg,h.s0,h.lx,h.lr,h.ne⟩
theorem RdK.later (h:RdK w0 x r P base K S c cs W) (hg:W.grownBy W1 none):RdK w0 x r P base K S c cs W1:=⟨h.pl.later hg,Yan h.bx hg,Yan h.rs hg,h.s0,h.lx,h.lr,h.ne⟩
theorem RdN.past (h:RdN w0 x r P base K S cs cs' W) (hg:W.grownBy W1 (some b)) (hb:W.heap[b]?=some (.cells c2 t (0,0))) (hw:w0.heap.size≤b) (hx:x≠b) (hr:r≠b) (ht:boxT t) (h1:t≠53) (h3:t≠91):RdN w0 x r P base K S cs cs' W1 :=
 ⟨h.pl.past hg hb hw ht h1 h3,Ya3 h.bx hg hx,Ya3 h.rs hg hr,h.s0,h.t0,h.t1,h.lx,h.lr,h.ne⟩
theorem RdH.past (h:RdH w0 x r P base K S S' cs W) (hg:W.grownBy W1 (some b)) (hb:W.heap[b]?=some (.cells c2 t (0,0))) (hw:w0.heap.size≤b) (hx:x≠b) (hr:r≠b) (ht:boxT t) (h1:t≠53) (h3:t≠91):RdH w0 x r P base K S S' cs W1 :=
 ⟨h.pl.past hg hb hw ht h1 h3,Ya3 h.bx hg hx,Ya3 h.rs hg hr,h.s0,h.lx,h.lr,h.ne⟩
theorem RdN.put (h:RdN w0 x r P base K S cs cs' W) (hg:W.grownBy W1 (some x)) (hb:W1.heap[x]?=some (.cells cs' 36 (0,0))):RdN w0 x r P base K S cs' cs' W1 :=
 ⟨h.pl.past hg h.bx h.lx Ybt (by decide) (by decide),hb,Ya3 h.rs hg (Ne.symm h.ne),h.t0,h.t0,h.t1,h.lx,h.lr,h.ne⟩
theorem RdN.code (h:RdN w0 x r P base K S cs cs W) (hy:OpOk y) (ha:Ybz 4800 S c y S' e p q) :
  Calls Tryz.prog 13 #[.pointer (some ⟨P,0,none⟩),.int .i64 c,.agg (opC y)] W fun en W1=>en=.returned (.agg #[.int .i64 (e:Nat),.int .u64 (p:Nat),.int .u64 (q:Nat)])∧RdH w0 x r P base K S S' cs W1∧Ybw w0 W W1:=by
 refine (h.pl.code hy ha).mono ?_
 rintro en W1 ⟨rfl,hp,hst⟩
 exact ⟨rfl,⟨hp,hst.box h.bx (by decide) (by decide) (by decide),hst.box h.rs (by decide) (by decide) (by decide),h.s0,h.lx,h.lr,h.ne⟩,hst⟩
theorem RdH.plain (h:RdH w0 x r P base K S S' cs W) (hK:K≤1000000) (hy:OpOk y) (ha:Ybz 4800 S c y S' e p q) :
  Calls Tryz.prog 26 #[.agg cs,.int .i64 c,.agg (opC y)] W fun en W1=>∃ cs',en=.returned (.tuple #[.agg cs',.agg #[.int .i64 (e:Nat),.int .u64 (p:Nat),.int .u64 (q:Nat)]])∧RdN w0 x r P base (K+1) S' cs cs' W1∧W.grownBy W1 none:=by
 refine (h.pl.plain hK hy ha).mono ?_
 rintro en W1 ⟨cs',rfl,q0,q1,hp,hg⟩
 exact ⟨cs',rfl,⟨hp,Yan h.bx hg,Yan h.rs hg,h.s0,q0,q1,h.lx,h.lr,h.ne⟩,hg⟩
theorem RdN.kill (h:RdN w0 x r P base K S cs cs W) (c:Int) :
  Calls Tryz.prog 17 #[.pointer (some ⟨P,0,none⟩),.int .i64 c] W fun en W1=>en=.returned (.tuple #[])∧RdK w0 x r P base K S c cs W1∧Ybw w0 W W1:=by
 refine (h.pl.kill c).mono ?_
 rintro en W1 ⟨rfl,hp,hst⟩
 exact ⟨rfl,⟨hp,hst.box h.bx (by decide) (by decide) (by decide),hst.box h.rs (by decide) (by decide) (by decide),h.s0,h.lx,h.lr,h.ne⟩,hst⟩
theorem RdK.died (h:RdK w0 x r P base K S c cs W) (hK:K≤1000000) :
  Calls Tryz.prog 18 #[.agg cs,.int .i64 c] W fun en W1=>∃ cs',en=.returned (.agg cs')∧RdN w0 x r P base K (Ycy S c) cs cs' W1∧W.grownBy W1 none:=by
 refine (h.pl.died hK).mono ?_
 rintro en W1 ⟨cs',rfl,q0,q1,hp,hg⟩
 exact ⟨cs',rfl,⟨hp,Yan h.bx hg,Yan h.rs hg,h.s0,q0,q1,h.lx,h.lr,h.ne⟩,hg⟩
end
section
variable {w:World} {la:Option Addr} {l:List Yc4} {n c:Nat}
set_option maxHeartbeats 16000000 in
theorem played14 (h:Yco w la l) (hok:∀ q∈l,Yda q) (hn:l.length=n) (h25:n≤25) :
  Calls Tryz.prog 11 #[.slice la n c] w fun e w'=>∃ P base K S cs,e=.returned (.tuple #[.pointer (some ⟨P,0,none⟩),.agg cs,.bool true])∧cs.size=21∧cs.all (·.oneCell')=true∧K≤100∧Pl w P base (.agg cs) K S w':=by
 have hrow:0<n→∃ b off,la=some ⟨b,off,none⟩∧∀ V,w.grownBy V none→∀ k,(hk:k<l.length)→∀ j v,(l[k]).C[j]?=some v→V.cell? ⟨b,off+k*11+j,none⟩=some v:=fun h0=>by
  obtain ⟨b,off,h1,h2,h3⟩:=h.cells (by omega)
  exact ⟨b,off,h1,fun V hV k hk j v hj=>(World.cell?_of_block (w:=w) (a:=⟨b,off+k*11+j,none⟩) (hV.block b h2 (by simp))).trans (h3 k hk j v hj)⟩
 have HROW:=Lib.hid hrow
 have HOK:=Lib.hid hok
 have HN:=Lib.hid hn
 have br:=Yab w (.cells sZ 36)
 have g0:=World.grownBy_alloc w (.cells sZ 36) none
 obtain ⟨Wr,hWr⟩:∃ Wr,w.alloc (.cells sZ 36)=Wr:=⟨_,rfl⟩
 rw [hWr] at br g0
 unfold sZ at hWr
 clear h hok hn hrow
 go_enter Tryz.func11,Tryz.ntmps11
 go_wp2_with (first
  | (go_at_call 23;go_must ((with_reducible refine (code_new _).mono ?_);rintro en w1 ⟨rfl,md,hg1⟩;have hc0:=plain_new (w0:=w) md (fun g hg=>Nat.le_trans g0.size hg.1) (Yaa g0 hg1);have br1:=Yan br hg1))
  | (go_at_call 25;go_must ((with_reducible refine hc0.mono ?_);rintro en w2 ⟨cs,rfl,t0,t1,hp,hg2⟩;have br2:=Yan br1 hg2;have bx:=Yab w2 (.cells sZ 36);have g3:=World.grownBy_alloc w2 (.cells sZ 36) none;obtain ⟨W2,hW2⟩:∃ W2,w2.alloc (.cells sZ 36)=W2:=⟨_,rfl⟩;rw [hW2] at bx g3;unfold sZ at hW2;have br3:=Yan br2 g3;have hp2:=hp.later g3))
  | (refine Yae rfl 36 _ _ rfl _ 0 rfl rfl bx (by rw [t0];exact Nat.le_refl _) (by rw [Yai,t0]) t1 ?_;intro W3 p3 g4;rw [Yau _ _ t0] at p3))
 have hrx:w.heap.size≠w2.heap.size:=by have:=lt_of_block br2;omega
 have hlx:w.heap.size≤w2.heap.size:=by have:=lt_of_block br2;omega
 have R0:RdN w w2.heap.size w.heap.size (Wr.heap.size+2) w1.heap.size 0 (newM 4480) cs cs W3 :=
  ⟨hp2.past g4 bx hlx Ybt (by decide) (by decide),p3,Ya3 br3 g4 hrx,t0,t0,t1,hlx,Nat.le_refl _,Ne.symm hrx⟩
 obtain ⟨x,hx⟩:∃ x,w2.heap.size=x:=⟨_,rfl⟩
 obtain ⟨P,hP⟩:∃ P,Wr.heap.size+2=P:=⟨_,rfl⟩
 rw [hx,hP] at R0
 rw [hx,hP]
 have H00:=Lib.hid R0
 clear hc0 md br br1 br2 br3 bx g3 hp hp2 p3 g4 hrx hlx R0 hW2 hx hP t0 t1
 go_loopw [8,7] (fun i is wr=>∃ (k K:Nat) (S:MS) (cs:Array Value),k≤8∧K≤k∧i=.int .i64 k∧is=.bool true∧RdN w x w.heap.size P w1.heap.size K S cs cs wr) (fun i _ _=>8 - (intOf i).toNat)
 case atStart=>exact ⟨0,0,_,cs,Nat.zero_le _,Nat.le_refl _,rfl,rfl,H00.out⟩
 case round =>
  obtain ⟨k,K,S,cs1,hk,hK,rfl,rfl,hR⟩:=hrel
  by_cases h1:k<8
  ·have h1':(k:Int)<8:=by omega
   obtain ⟨S',e,p,q,ha⟩:=step_total 4800 S (k:Int) attM
   have hs0:=hR.t0
   have hc1:=hR.code att_ok ha
   rw [att_lit] at hc1
   have HR:=Lib.hid hR
   have HA:=Lib.hid ha
   have HKK:=Lib.hid hK
   have e0:((e:Int) == (e:Int))=true:=by simp
   have e1:((p:Int) == (p:Int))=true:=by simp
   have e2:((q:Int) == (q:Int))=true:=by simp
   clear hR ha hK
   go_wp2_with (first
    | (go_at_call 13;go_must ((with_reducible refine hc1.mono ?_);rintro en v1 ⟨rfl,hH,-⟩;have ga:=World.grownBy_alloc v1 (.cells #[.int .i64 (e:Nat),.int .u64 (p:Nat),.int .u64 (q:Nat)] 46) none;have b9:=Yab v1 (.cells #[.int .i64 (e:Nat),.int .u64 (p:Nat),.int .u64 (q:Nat)] 46);have hH2:=hH.later ga;have b1:=hH2.bx;have hc2:=hH2.plain (by have:=HKK.out;omega) att_ok HA.out;rw [att_lit] at hc2;have gv:=hH.pl.gr;have hxv:=lt_of_block hH.bx))
    | (refine Yad rfl 36 _ rfl _ 0 rfl b1 cs1 (fun j v hj=>by simpa using hj) _ Tryz.underlying36 rfl (by rw [Yai,hs0]) ?_)
    | (go_at_call 26;go_must ((with_reducible refine hc2.mono ?_);rintro en w3 ⟨cs2,rfl,hN,hg3⟩;have b93:=Yan b9 hg3;have hxv3:=lt_of_block hN.bx;have hrv3:=lt_of_block hN.rs;obtain ⟨t1,t2,gt⟩:=two_boxes w3;obtain ⟨W4,hW4⟩:∃ W4,(w3.alloc (.cells sZ 36)).alloc (.cells rZ 46)=W4:=⟨_,rfl⟩;rw [hW4] at t1 t2 gt;unfold sZ rZ at hW4;have hN4:=hN.later gt;have b94:=Yan b93 gt;have hl9:=lt_of_block b93;have hgw:=hN.pl.gr.size))
    | (refine Yae rfl 36 _ _ rfl _ 0 rfl rfl t1 (by rw [hN.t0];exact Nat.le_refl _) (by rw [Yai,hN.t0]) hN.t1 ?_;intro W5 p5 g5;rw [Yau _ _ hN.t0] at p5;have t25:=Ya3 t2 g5 (by omega);obtain ⟨y0,y1,y2⟩:=Yaf t25;obtain ⟨z0,z1,z2⟩:=Yak t25;have hN5:=hN4.past g5 t1 (by omega) (by omega) (by omega) Ybt (by decide) (by decide);have b95:=Ya3 b94 g5 (by omega);have q6:=Yaz t25 (x':=.int .i64 (e:Nat)) (y':=.int .u64 (p:Nat)) (z':=.int .u64 (q:Nat));have g6:W5.grownBy (((W5.setCell ⟨w3.heap.size+1,0,none⟩ (.int .i64 (e:Nat))).setCell ⟨w3.heap.size+1,1,none⟩ (.int .u64 (p:Nat))).setCell ⟨w3.heap.size+1,2,none⟩ (.int .u64 (q:Nat))) (some (w3.heap.size+1)):=Yaa (Yac _ _ _ _) (Yaa (Yac _ _ _ _) (Yac _ _ _ _));obtain ⟨W6,hW6⟩:∃ W6,((W5.setCell ⟨w3.heap.size+1,0,none⟩ (.int .i64 (e:Nat))).setCell ⟨w3.heap.size+1,1,none⟩ (.int .u64 (p:Nat))).setCell ⟨w3.heap.size+1,2,none⟩ (.int .u64 (q:Nat))=W6:=⟨_,rfl⟩;rw [hW6] at q6 g6;have p6:=Ya3 p5 g6 (by omega);have hN6:=hN5.past g6 t25 (by omega) (by omega) (by omega) boxRs (by decide) (by decide);have b96:=Ya3 b95 g6 (by omega);have b16:=hN6.bx;have hxv6:x≠v1.heap.size:=(by omega);clear p5 t25)
    | (refine Yad rfl 36 _ rfl _ 0 rfl p6 cs2 (fun j v hj=>by simpa using hj) _ Tryz.underlying36 rfl (by rw [Yai,hN.t0]) ?_)
    | (refine Yae rfl 36 _ _ rfl _ 0 rfl rfl b16 (by rw [hN.t0];exact (by rw [hs0];exact Nat.le_refl _)) (by rw [Yai,hN.t0]) hN.t1 ?_;intro W7 p7 g7;rw [Yau _ _ (by rw [hN.t0,hs0])] at p7;have hN7:=hN6.put g7 p7;obtain ⟨m0,m1,m2⟩:=Yaf (Ya3 b96 g7 (Ne.symm hxv6));obtain ⟨n0,n1,n2⟩:=Yaf (Ya3 q6 g7 (by omega))))
   go_roundw
   case rel=>exact ⟨k+1,K+1,S',cs2,by omega,by have:=HKK.out;omega,by go_num,rfl,hN7⟩
   case measure=>simp [intOf];omega
  ·have h1':¬ (k:Int)<8:=by omega
   have HK8:Hid (K≤8):=Lib.hid (by omega)
   clear h1 hk hK
   have HR:=Lib.hid hR
   clear hR
   go_wp2
   obtain ⟨wo,hwo⟩:∃ wo,wr=wo:=⟨_,rfl⟩
   subst hwo
   go_loopw [12,7] (fun i is wr=>∃ (k K:Nat) (S:MS) (cs:Array Value),k≤n∧K≤8+k∧i=.int .i64 k∧is=.bool true∧RdN w x w.heap.size P w1.heap.size K S cs cs wr) (fun i _ _=>n - (intOf i).toNat)
   case atStart=>exact ⟨0,K,S,cs1,Nat.zero_le _,by have:=HK8.out;omega,rfl,rfl,HR.out⟩
   case round =>
    obtain ⟨k2,K2,S2,cs3,hk2,hK2,rfl,rfl,hR2⟩:=hrel
    by_cases h2:k2<n
    ·have h2':(k2:Int)<(n:Int):=by omega
     obtain ⟨b,off,ela,hrow⟩:=HROW.out (by omega)
     subst ela
     have hkl:k2<l.length:=by rw [HN.out];exact h2
     have hokk:=HOK.out _ (List.getElem_mem hkl)
     obtain ⟨z,hz⟩:∃ z,l[k2]=z:=⟨_,rfl⟩
     have hcc:∀ V,w.grownBy V none→∀ j v,z.C[j]?=some v→V.cell? ⟨b,off+k2*11+j,none⟩=some v:=fun V hV j v hj=>hrow V hV k2 hkl j v (by rw [hz];exact hj)
     rw [hz] at hokk
     have hc0:∀ V,w.grownBy V none→V.cell? ⟨b,off+k2*11,none⟩=some (.int .i64 z.c):=fun V hV=>hcc V hV 0 _ rfl
     have r10:wr.cell? ⟨b,off+k2*11+10,none⟩=some (.bool z.kill):=hcc wr hR2.pl.gr 10 _ rfl
     have r0:=hc0 wr hR2.pl.gr
     have HCC:=Lib.hid hcc
     have HC0:=Lib.hid hc0
     have HR2:=Lib.hid hR2
     have HOKK:=Lib.hid hokk
     have hs0:=hR2.t0
     clear hrow hz hcc hc0 hokk hkl
     cases hkill:z.kill with
     | true =>
      rw [hkill] at r10
      have hc1:=hR2.kill z.c
      clear hR2
      go_wp2_with (go_at_call 17;go_must ((with_reducible refine hc1.mono ?_);rintro en v1 ⟨rfl,hKd,-⟩))
      have HG:v1.grownBy v1.drew none:=Yah (Yag _ _)
      have hKd2:=hKd.later HG
      have hcd:=HC0.out _ hKd2.pl.gr
      have hbl:b<w.heap.size:=by
       rcases Nat.lt_or_ge b w.heap.size with h'|h'
       ·exact h'
       ·have:=HC0.out w (Yag _ _);simp [World.cell?,Array.getElem?_eq_none h'] at this
      refine wp_region_held_drew (S:=fun V=>V.cell? ⟨b,off+k2*11,none⟩=some (.int .i64 z.c)) (by kernel_rfl) hcd (fun hHeld=>?_)
      refine hY 1 60 (v:=?_) rfl rfl hHeld ?y1 ?r1
      case y1=>(intro w hSw;(try dsimp only at hSw);go_simp;try (with_reducible rfl))
      case r1 =>
      simp only [Act.put,List.setIfInBounds_toArray,List.set_cons_zero,List.set_cons_succ]
      refine hY 2 61 (v:=?_) rfl rfl hHeld ?y2 ?r2
      case y2=>(intro w hSw;(try dsimp only at hSw);go_simp;try (with_reducible rfl))
      case r2 =>
      simp only [Act.put,List.setIfInBounds_toArray,List.set_cons_zero,List.set_cons_succ]
      refine hY 3 62 (v:=?_) rfl rfl hHeld ?y3 ?r3
      case y3=>(intro w hSw;(try dsimp only at hSw);go_simp;try (with_reducible rfl))
      case r3 =>
      simp only [Act.put,List.setIfInBounds_toArray,List.set_cons_zero,List.set_cons_succ]
      refine hY 4 63 (v:=?_) rfl rfl hHeld ?y4 ?r4
      case y4=>(intro w hSw;(try dsimp only at hSw);go_simp;try (with_reducible rfl))
      case r4 =>
      simp only [Act.put,List.setIfInBounds_toArray,List.set_cons_zero,List.set_cons_succ]
      refine hY 5 64 (v:=?_) rfl rfl hHeld ?y5 ?r5
      case y5=>(intro w hSw;(try dsimp only at hSw);go_simp;try (with_reducible rfl))
      case r5 =>
      simp only [Act.put,List.setIfInBounds_toArray,List.set_cons_zero,List.set_cons_succ]
      refine wpAnyH_ready (rs:=[0]) (by kernel_rfl) (by simp) (AllReadyH.cons rfl (fun K hK=>?_) AllReadyH.nil)
      refine step_load_row rfl 36 _ rfl _ 0 rfl hKd2.bx cs3 (fun j v hj=>by simpa using hj) _ Tryz.underlying36 rfl (by rw [Yai,hs0]) ?_
      refine hK.out _ _ hcd (fun hHeld=>?_)
      clear hK K
      try simp only [Act.put,List.setIfInBounds_toArray,List.set_cons_zero,List.set_cons_succ]
      refine wpAnyH_ready (rs:=[6]) (by kernel_rfl) (by simp) (AllReadyH.cons rfl (fun K hK=>?_) AllReadyH.nil)
      clear hHeld
      go_simp
      (go_at_call 18;go_must ((with_reducible refine (hKd2.died (by omega)).mono ?_);rintro en w5 ⟨cs4,rfl,hN5,hg5⟩))
      have hc5:=HC0.out _ hN5.pl.gr
      refine hK.out _ _ hc5 (fun hHeld=>?_)
      clear hK K
      try simp only [Act.put,List.setIfInBounds_toArray,List.set_cons_zero,List.set_cons_succ]
      refine wpAnyH_ready (rs:=[7]) (by kernel_rfl) (by simp) (AllReadyH.cons rfl (fun K hK=>?_) AllReadyH.nil)
      refine Ybe rfl 36 _ _ rfl _ 0 rfl rfl hN5.bx (by rw [hN5.t0,hs0];exact Nat.le_refl _) (by rw [Yai,hN5.t0]) hN5.t1 ?_
      intro W6 p6 g6
      rw [Yau _ _ (by rw [hN5.t0,hs0])] at p6
      have hN6:=hN5.put g6 p6
      have hc6:=HC0.out _ hN6.pl.gr
      refine hK.out _ _ hc6 (fun hHeld=>?_)
      clear hK K
      try simp only [Act.put,List.setIfInBounds_toArray,List.set_cons_zero,List.set_cons_succ]
      refine wpAnyH_done (by kernel_rfl) ?_ _
      go_wp2
      go_roundw
      case rel=>exact ⟨k2+1,K2,_,cs4,by omega,by omega,by go_num,rfl,hN6⟩
      case measure=>simp [intOf];omega
     | false =>
      rw [hkill] at r10
      go_wp2
      have HG:wr.grownBy wr.drew none:=Yah (Yag _ _)
      have hRd:=hR2.later HG
      have hbl:b<w.heap.size:=by
       rcases Nat.lt_or_ge b w.heap.size with h'|h'
       ·exact h'
       ·have:=HC0.out w (Yag _ _);simp [World.cell?,Array.getElem?_eq_none h'] at this
      have hS:∀ V,wr.grownBy V none→V.heap[x]?=some (.cells cs3 36 (0,0))∧∀ j v,z.C[j]?=some v→V.cell? ⟨b,off+k2*11+j,none⟩=some v:=fun V hV=>⟨Yan HR2.out.bx hV,HCC.out V (Yaa HR2.out.pl.gr hV)⟩
      have HS:=Lib.hid hS
      obtain ⟨y,ey⟩:∃ y,resM S2.bs z.x z.at_=y:=⟨_,rfl⟩
      have hy:OpOk y:=by rw [← ey];exact resM_ok HR2.out.pl.hm HOKK.out.x z.at_
      have hres:∀ V,wr.grownBy V none→Calls Tryz.prog 14 #[.agg cs3,.agg z.C] V fun en W1=>en=.returned (.agg (opC y))∧V.grownBy W1 none:=fun V hV=>by
       rw [← ey]
       exact (HR2.out.later hV).pl.resolve z.c HOKK.out.at_ z.kill
      have HRES:=Lib.hid hres
      have HY:=Lib.hid hy
      have hgw:=HR2.out.pl.gr.size
      have hxz:=lt_of_block HR2.out.bx
      have hrz:=lt_of_block HR2.out.rs
      clear hS ey hres hy hR2 r0 r10
      apply split_rest (α:=Nat) (R:=fun b13 V=>wr.grownBy V none∧wr.heap.size≤b13∧V.heap[b13]?=some (.cells (opC y) 41 (0,0)))
      ·intro hG
       refine wp_region_held_drew (S:=fun V=>V.heap[x]?=some (.cells cs3 36 (0,0))∧∀ j v,z.C[j]?=some v→V.cell? ⟨b,off+k2*11+j,none⟩=some v) (by kernel_rfl) (HS.out _ HG) (fun hHeld=>?_)
       refine hY 0 66 (v:=.agg cs3) rfl rfl hHeld ?y0 ?r0
       case y0=>exact Ycz 36 _ rfl _ 0 rfl (fun W hW=>hW.1) cs3 (fun j v hj=>by simpa using hj) _ Tryz.underlying36 rfl (by rw [Yai,hs0])
       case r0 =>
       simp only [Act.put,List.setIfInBounds_toArray,List.set_cons_zero,List.set_cons_succ]
       refine hY 1 67 (v:=?_) rfl rfl hHeld ?y1 ?r1
       case y1=>(intro w hSw;(try dsimp only at hSw);go_simp;try (with_reducible rfl))
       case r1 =>
       simp only [Act.put,List.setIfInBounds_toArray,List.set_cons_zero,List.set_cons_succ]
       refine hY 2 68 (v:=?_) rfl rfl hHeld ?y2 ?r2
       case y2=>(intro w hSw;(try dsimp only at hSw);go_simp;try (with_reducible rfl))
       case r2 =>
       simp only [Act.put,List.setIfInBounds_toArray,List.set_cons_zero,List.set_cons_succ]
       refine hY 3 69 (v:=?_) rfl rfl hHeld ?y3 ?r3
       case y3=>(intro w hSw;(try dsimp only at hSw);go_simp;try (with_reducible rfl))
       case r3 =>
       simp only [Act.put,List.setIfInBounds_toArray,List.set_cons_zero,List.set_cons_succ]
       refine hY 4 70 (v:=.agg z.C) rfl rfl hHeld ?y4 ?r4
       case y4=>exact exec_cells 43 _ rfl _ _ rfl z.C (fun W hW=>hW.2) _ Tryz.underlying43 rfl (by exact info_call)
       case r4 =>
       simp only [Act.put,List.setIfInBounds_toArray,List.set_cons_zero,List.set_cons_succ]
       refine wpAnyH_ready (rs:=[5,6]) (by kernel_rfl) (by simp) (AllReadyH.cons rfl (fun K hK=>?_) (AllReadyH.cons rfl (fun K hK=>?_) AllReadyH.nil))
       ·clear hHeld
        go_simp
        (go_at_call 14;go_must ((with_reducible refine (HRES.out _ HG).mono ?_);rintro en w5 ⟨rfl,hg5⟩))
        have HG5:=Yaa HG hg5
        refine hK.out _ _ (HS.out _ HG5) (fun hHeld=>?_)
        clear hK K
        try simp only [Act.put,List.setIfInBounds_toArray,List.set_cons_zero,List.set_cons_succ]
        refine wpAnyH_ready (rs:=[6]) (by kernel_rfl) (by simp) (AllReadyH.cons rfl (fun K hK=>?_) AllReadyH.nil)
        clear hHeld
        have HGq:=HG5
        have b13:=Yab w5 (.cells #[.int .i64 0,.int .u64 0,.int .u64 0,.int .u64 0,.int .u64 0,.int .u64 0,.int .i64 0,.string ⟨#[]⟩] 41)
        have HG6:=Yaa HG5 (World.grownBy_alloc w5 (.cells #[.int .i64 0,.int .u64 0,.int .u64 0,.int .u64 0,.int .u64 0,.int .u64 0,.int .i64 0,.string ⟨#[]⟩] 41) none)
        go_simp
        refine hK.out _ _ (HS.out _ HG6) (fun hHeld=>?_)
        clear hK K
        try simp only [Act.put,List.setIfInBounds_toArray,List.set_cons_zero,List.set_cons_succ]
        refine wpAnyH_ready (rs:=[7]) (by kernel_rfl) (by simp) (AllReadyH.cons rfl (fun K hK=>?_) AllReadyH.nil)
        refine Ybe rfl 41 _ _ rfl _ 0 rfl rfl b13 (by exact Nat.le_refl _) (by exact Ybb) opC_one ?_
        intro W9 p9 g9
        rw [Yau _ _ (by rfl)] at p9
        have hne:x≠w5.heap.size:=by have:=HGq.size;omega
        have hbs:=HS.out _ HG6
        have hbn:b≠w5.heap.size:=by have:=HGq.size;omega
        have hS9:W9.heap[x]?=some (.cells cs3 36 (0,0))∧∀ j v,z.C[j]?=some v→W9.cell? ⟨b,off+k2*11+j,none⟩=some v:=⟨Ya3 hbs.1 g9 hne,fun j v hj=>(World.cell?_of_block (w:=(w5.alloc (.cells #[.int .i64 0,.int .u64 0,.int .u64 0,.int .u64 0,.int .u64 0,.int .u64 0,.int .i64 0,.string ⟨#[]⟩] 41))) (a:=⟨b,off+k2*11+j,none⟩) (g9.block b (by have:=HG6.size;omega) (fun h=>hbn (by injection h)))).trans (hbs.2 j v hj)⟩
        refine hK.out _ _ hS9 (fun hHeld=>?_)
        clear hK K
        try simp only [Act.put,List.setIfInBounds_toArray,List.set_cons_zero,List.set_cons_succ]
        refine wpAnyH_done (by kernel_rfl) ?_ _
        have hlb:wr.heap.size≤w5.heap.size:=by have:=HGq.size;omega
        have gfin:wr.grownBy W9 none:=Yap (Yaa (Yam HG6 _) g9) hlb
        clear hHeld hS9 hbs b13
        obtain ⟨bb,hbb⟩:∃ bb,w5.heap.size=bb:=⟨_,rfl⟩
        have hl2:wr.heap.size≤bb:=by omega
        rw [hbb] at p9
        rw [hbb]
        exact hG bb W9 ⟨gfin,hl2,p9⟩
       ·clear hHeld
        have HGq:=HG
        have b13w:(wr.alloc (.cells #[.int .i64 0,.int .u64 0,.int .u64 0,.int .u64 0,.int .u64 0,.int .u64 0,.int .i64 0,.string ⟨#[]⟩] 41)).drew.heap[wr.heap.size]?=some (.cells #[.int .i64 0,.int .u64 0,.int .u64 0,.int .u64 0,.int .u64 0,.int .u64 0,.int .i64 0,.string ⟨#[]⟩] 41 (0,0)):=Yab wr (.cells #[.int .i64 0,.int .u64 0,.int .u64 0,.int .u64 0,.int .u64 0,.int .u64 0,.int .i64 0,.string ⟨#[]⟩] 41)
        have HG5:wr.grownBy (wr.alloc (.cells #[.int .i64 0,.int .u64 0,.int .u64 0,.int .u64 0,.int .u64 0,.int .u64 0,.int .i64 0,.string ⟨#[]⟩] 41)).drew none:=Yah (World.grownBy_alloc wr (.cells #[.int .i64 0,.int .u64 0,.int .u64 0,.int .u64 0,.int .u64 0,.int .u64 0,.int .i64 0,.string ⟨#[]⟩] 41) none)
        go_simp
        refine hK.out _ _ (HS.out _ HG5) (fun hHeld=>?_)
        clear hK K
        try simp only [Act.put,List.setIfInBounds_toArray,List.set_cons_zero,List.set_cons_succ]
        refine wpAnyH_ready (rs:=[5]) (by kernel_rfl) (by simp) (AllReadyH.cons rfl (fun K hK=>?_) AllReadyH.nil)
        clear hHeld
        go_simp
        (go_at_call 14;go_must ((with_reducible refine (HRES.out _ HG5).mono ?_);rintro en w5 ⟨rfl,hg5⟩))
        have HG6:=Yaa HG5 hg5
        have b13:=Yan b13w hg5
        refine hK.out _ _ (HS.out _ HG6) (fun hHeld=>?_)
        clear hK K
        try simp only [Act.put,List.setIfInBounds_toArray,List.set_cons_zero,List.set_cons_succ]
        refine wpAnyH_ready (rs:=[7]) (by kernel_rfl) (by simp) (AllReadyH.cons rfl (fun K hK=>?_) AllReadyH.nil)
        refine Ybe rfl 41 _ _ rfl _ 0 rfl rfl b13 (by exact Nat.le_refl _) (by exact Ybb) opC_one ?_
        intro W9 p9 g9
        rw [Yau _ _ (by rfl)] at p9
        have hne:x≠wr.heap.size:=by have:=HGq.size;omega
        have hbs:=HS.out _ HG6
        have hbn:b≠wr.heap.size:=by have:=HGq.size;omega
        have hS9:W9.heap[x]?=some (.cells cs3 36 (0,0))∧∀ j v,z.C[j]?=some v→W9.cell? ⟨b,off+k2*11+j,none⟩=some v:=⟨Ya3 hbs.1 g9 hne,fun j v hj=>(World.cell?_of_block (w:=w5) (a:=⟨b,off+k2*11+j,none⟩) (g9.block b (by have:=HG6.size;omega) (fun h=>hbn (by injection h)))).trans (hbs.2 j v hj)⟩
        refine hK.out _ _ hS9 (fun hHeld=>?_)
        clear hK K
        try simp only [Act.put,List.setIfInBounds_toArray,List.set_cons_zero,List.set_cons_succ]
        refine wpAnyH_done (by kernel_rfl) ?_ _
        have hlb:wr.heap.size≤wr.heap.size:=by have:=HGq.size;omega
        have gfin:wr.grownBy W9 none:=Yap (Yaa (Yam HG6 _) g9) hlb
        clear hHeld hS9 hbs b13
        obtain ⟨bb,hbb⟩:∃ bb,wr.heap.size=bb:=⟨_,rfl⟩
        have hl2:wr.heap.size≤bb:=by omega
        rw [hbb] at p9
        rw [hbb]
        exact hG bb W9 ⟨gfin,hl2,p9⟩
      ·intro b13 V17 ⟨g17,l13,p13⟩
       obtain ⟨S',e,p,q,ha⟩:=step_total 4800 S2 z.c y
       have hN17:=HR2.out.later g17
       have HN17:=Lib.hid hN17
       have HA:=Lib.hid ha
       have hc3:∀ V,V17.grownBy V none→Calls Tryz.prog 13 #[.pointer (some ⟨P,0,none⟩),.int .i64 z.c,.agg (opC y)] V fun en W1=>en=.returned (.agg #[.int .i64 (e:Nat),.int .u64 (p:Nat),.int .u64 (q:Nat)])∧RdH w x w.heap.size P w1.heap.size K2 S2 S' cs3 W1∧Ybw w V W1:=fun V hV=>(hN17.later hV).code HY.out ha
       have HC3:=Lib.hid hc3
       have hS8:∀ V,w.grownBy V none→V.heap[b13]?=some (.cells (opC y) 41 (0,0))→V.cell? ⟨b,off+k2*11,none⟩=some (.int .i64 z.c)∧V.heap[b13]?=some (.cells (opC y) 41 (0,0)):=fun V hV hb=>⟨HC0.out V hV,hb⟩
       have HS8:=Lib.hid hS8
       have HP13:=Lib.hid p13
       clear hS8 hc3 hN17 ha p13 HG hRd HS HRES
       go_wp2
       have HG:V17.grownBy V17.drew none:=Yah (Yag _ _)
       apply split_rest (α:=Nat) (R:=fun b14 V=>RdH w x w.heap.size P w1.heap.size K2 S2 S' cs3 V∧V.heap[b13]?=some (.cells (opC y) 41 (0,0))∧V.heap[b14]?=some (.cells #[.int .i64 (e:Nat),.int .u64 (p:Nat),.int .u64 (q:Nat)] 46 (0,0)))
       ·intro hG
        refine wp_region_held_drew (S:=fun V=>V.cell? ⟨b,off+k2*11,none⟩=some (.int .i64 z.c)∧V.heap[b13]?=some (.cells (opC y) 41 (0,0))) (by kernel_rfl) (HS8.out _ (HN17.out.later HG).pl.gr (Yan HP13.out HG)) (fun hHeld=>?_)
        refine hY 0 72 (v:=?_) rfl rfl hHeld ?y0 ?r0
        case y0=>(intro w hSw;(try dsimp only at hSw);go_simp;try (with_reducible rfl))
        case r0 =>
        simp only [Act.put,List.setIfInBounds_toArray,List.set_cons_zero,List.set_cons_succ]
        refine hY 1 73 (v:=?_) rfl rfl hHeld ?y1 ?r1
        case y1=>(intro w hSw;(try dsimp only at hSw);go_simp;try (with_reducible rfl))
        case r1 =>
        simp only [Act.put,List.setIfInBounds_toArray,List.set_cons_zero,List.set_cons_succ]
        refine hY 2 74 (v:=?_) rfl rfl hHeld ?y2 ?r2
        case y2=>(intro w hSw;(try dsimp only at hSw);go_simp;try (with_reducible rfl))
        case r2 =>
        simp only [Act.put,List.setIfInBounds_toArray,List.set_cons_zero,List.set_cons_succ]
        refine hY 3 75 (v:=?_) rfl rfl hHeld ?y3 ?r3
        case y3=>(intro w hSw;(try dsimp only at hSw);go_simp;try (with_reducible rfl))
        case r3 =>
        simp only [Act.put,List.setIfInBounds_toArray,List.set_cons_zero,List.set_cons_succ]
        refine hY 4 76 (v:=?_) rfl rfl hHeld ?y4 ?r4
        case y4=>(intro w hSw;(try dsimp only at hSw);go_simp;try (with_reducible rfl))
        case r4 =>
        simp only [Act.put,List.setIfInBounds_toArray,List.set_cons_zero,List.set_cons_succ]
        refine hY 5 77 (v:=?_) rfl rfl hHeld ?y5 ?r5
        case y5=>(intro w hSw;(try dsimp only at hSw);go_simp;try (with_reducible rfl))
        case r5 =>
        simp only [Act.put,List.setIfInBounds_toArray,List.set_cons_zero,List.set_cons_succ]
        refine hY 6 78 (v:=.agg (opC y)) rfl rfl hHeld ?y6 ?r6
        case y6=>exact Ycz 41 _ rfl _ 0 rfl (fun W hW=>hW.2) (opC y) (fun j v hj=>by simpa using hj) _ Tryz.underlying41 rfl (by exact Ybb)
        case r6 =>
        simp only [Act.put,List.setIfInBounds_toArray,List.set_cons_zero,List.set_cons_succ]
        refine wpAnyH_ready (rs:=[7,8]) (by kernel_rfl) (by simp) (AllReadyH.cons rfl (fun K hK=>?_) (AllReadyH.cons rfl (fun K hK=>?_) AllReadyH.nil))
        ·clear hHeld
         go_simp
         (go_at_call 13;go_must ((with_reducible refine (HC3.out _ HG).mono ?_);rintro en w5 ⟨rfl,hH5,hst5⟩))
         have b135:=hst5.box (Yan HP13.out HG) (by decide) (by decide) (by decide)
         refine hK.out _ _ (HS8.out _ hH5.pl.gr b135) (fun hHeld=>?_)
         clear hK K
         try simp only [Act.put,List.setIfInBounds_toArray,List.set_cons_zero,List.set_cons_succ]
         refine wpAnyH_ready (rs:=[8]) (by kernel_rfl) (by simp) (AllReadyH.cons rfl (fun K hK=>?_) AllReadyH.nil)
         clear hHeld
         have p14:=Yab w5 (.cells #[.int .i64 0,.int .u64 0,.int .u64 0] 46)
         have g6:=World.grownBy_alloc w5 (.cells #[.int .i64 0,.int .u64 0,.int .u64 0] 46) none
         have hH6:=hH5.later g6
         have b136:=Yan b135 g6
         have hw9:=hH5.pl.gr.size
         go_simp
         refine hK.out _ _ (HS8.out _ hH6.pl.gr b136) (fun hHeld=>?_)
         clear hK K
         try simp only [Act.put,List.setIfInBounds_toArray,List.set_cons_zero,List.set_cons_succ]
         refine wpAnyH_ready (rs:=[9]) (by kernel_rfl) (by simp) (AllReadyH.cons rfl (fun K hK=>?_) AllReadyH.nil)
         refine Ybe rfl 46 _ _ rfl _ 0 rfl rfl p14 (by exact Nat.le_refl _) (by exact Ya0) (by simp [Value.oneCell']) ?_
         intro W9 p9 g9
         rw [Yau _ _ (by rfl)] at p9
         have hx9:x≠w5.heap.size:=Ybu hH6.bx p14 (by decide)
         have hr9:w.heap.size≠w5.heap.size:=Ybu hH6.rs p14 (by decide)
         have hb9:b13≠w5.heap.size:=Ybu b136 p14 (by decide)
         have hH9:=hH6.past g9 p14 hw9 hx9 hr9 boxRs (by decide) (by decide)
         have hb13:=Ya3 b136 g9 hb9
         refine hK.out _ _ (HS8.out _ hH9.pl.gr hb13) (fun hHeld=>?_)
         clear hK K
         try simp only [Act.put,List.setIfInBounds_toArray,List.set_cons_zero,List.set_cons_succ]
         refine wpAnyH_done (by kernel_rfl) ?_ _
         clear hHeld
         obtain ⟨bb,hbb⟩:∃ bb,w5.heap.size=bb:=⟨_,rfl⟩
         rw [hbb] at p9
         rw [hbb]
         exact hG bb W9 ⟨hH9,hb13,p9⟩
        ·clear hHeld
         have p14w:(V17.alloc (.cells #[.int .i64 0,.int .u64 0,.int .u64 0] 46)).drew.heap[V17.heap.size]?=some (.cells #[.int .i64 0,.int .u64 0,.int .u64 0] 46 (0,0)):=Yab V17 (.cells #[.int .i64 0,.int .u64 0,.int .u64 0] 46)
         have HG5:V17.grownBy (V17.alloc (.cells #[.int .i64 0,.int .u64 0,.int .u64 0] 46)).drew none:=Yah (World.grownBy_alloc V17 (.cells #[.int .i64 0,.int .u64 0,.int .u64 0] 46) none)
         have hw9:=HN17.out.pl.gr.size
         go_simp
         refine hK.out _ _ (HS8.out _ (HN17.out.later HG5).pl.gr (Yan HP13.out HG5)) (fun hHeld=>?_)
         clear hK K
         try simp only [Act.put,List.setIfInBounds_toArray,List.set_cons_zero,List.set_cons_succ]
         refine wpAnyH_ready (rs:=[7]) (by kernel_rfl) (by simp) (AllReadyH.cons rfl (fun K hK=>?_) AllReadyH.nil)
         clear hHeld
         go_simp
         (go_at_call 13;go_must ((with_reducible refine (HC3.out _ HG5).mono ?_);rintro en w5 ⟨rfl,hH5,hst5⟩))
         have b135:=hst5.box (Yan HP13.out HG5) (by decide) (by decide) (by decide)
         have p14:=hst5.box p14w (by decide) (by decide) (by decide)
         refine hK.out _ _ (HS8.out _ hH5.pl.gr b135) (fun hHeld=>?_)
         clear hK K
         try simp only [Act.put,List.setIfInBounds_toArray,List.set_cons_zero,List.set_cons_succ]
         refine wpAnyH_ready (rs:=[9]) (by kernel_rfl) (by simp) (AllReadyH.cons rfl (fun K hK=>?_) AllReadyH.nil)
         refine Ybe rfl 46 _ _ rfl _ 0 rfl rfl p14 (by exact Nat.le_refl _) (by exact Ya0) (by simp [Value.oneCell']) ?_
         intro W9 p9 g9
         rw [Yau _ _ (by rfl)] at p9
         have hx9:x≠V17.heap.size:=Ybu hH5.bx p14 (by decide)
         have hr9:w.heap.size≠V17.heap.size:=Ybu hH5.rs p14 (by decide)
         have hb9:b13≠V17.heap.size:=Ybu b135 p14 (by decide)
         have hH9:=hH5.past g9 p14 hw9 hx9 hr9 boxRs (by decide) (by decide)
         have hb13:=Ya3 b135 g9 hb9
         refine hK.out _ _ (HS8.out _ hH9.pl.gr hb13) (fun hHeld=>?_)
         clear hK K
         try simp only [Act.put,List.setIfInBounds_toArray,List.set_cons_zero,List.set_cons_succ]
         refine wpAnyH_done (by kernel_rfl) ?_ _
         clear hHeld
         obtain ⟨bb,hbb⟩:∃ bb,V17.heap.size=bb:=⟨_,rfl⟩
         rw [hbb] at p9
         rw [hbb]
         exact hG bb W9 ⟨hH9,hb13,p9⟩
       ·intro b14 V18 ⟨hH18,p13',p14⟩
        have HP13':=Lib.hid p13'
        have HP14:=Lib.hid p14
        have HH18:=Lib.hid hH18
        have hs3:=hH18.s0
        have hc4:∀ V,V18.grownBy V none→Calls Tryz.prog 26 #[.agg cs3,.int .i64 z.c,.agg (opC y)] V fun en W1=>∃ cs',en=.returned (.tuple #[.agg cs',.agg #[.int .i64 (e:Nat),.int .u64 (p:Nat),.int .u64 (q:Nat)]])∧RdN w x w.heap.size P w1.heap.size (K2+1) S' cs3 cs' W1∧V.grownBy W1 none:=fun V hV=>(hH18.later hV).plain (by omega) HY.out HA.out
        have HC4:=Lib.hid hc4
        have hS9:∀ V,V18.grownBy V none→V.heap[x]?=some (.cells cs3 36 (0,0))∧V.cell? ⟨b,off+k2*11,none⟩=some (.int .i64 z.c)∧V.heap[b13]?=some (.cells (opC y) 41 (0,0)):=fun V hV=>⟨Yan hH18.bx hV,HC0.out V (hH18.later hV).pl.gr,Yan p13' hV⟩
        have HS9:=Lib.hid hS9
        have hxV:=lt_of_block hH18.bx
        have hrV:=lt_of_block hH18.rs
        have hwV:=hH18.pl.gr.size
        have h14V:=lt_of_block p14
        clear hS9 hc4 hH18 p13' p14 HG
        go_wp2
        have HG:V18.grownBy V18.drew none:=Yah (Yag _ _)
        refine wp_region_held_drew (S:=fun V=>V.heap[x]?=some (.cells cs3 36 (0,0))∧V.cell? ⟨b,off+k2*11,none⟩=some (.int .i64 z.c)∧V.heap[b13]?=some (.cells (opC y) 41 (0,0))) (by kernel_rfl) (HS9.out _ HG) (fun hHeld=>?_)
        refine hY 0 81 (v:=.agg cs3) rfl rfl hHeld ?y0 ?r0
        case y0=>exact Ycz 36 _ rfl _ 0 rfl (fun W hW=>hW.1) cs3 (fun j v hj=>by simpa using hj) _ Tryz.underlying36 rfl (by rw [Yai,hs3])
        case r0 =>
        simp only [Act.put,List.setIfInBounds_toArray,List.set_cons_zero,List.set_cons_succ]
        refine hY 1 82 (v:=?_) rfl rfl hHeld ?y1 ?r1
        case y1=>(intro w hSw;(try dsimp only at hSw);go_simp;try (with_reducible rfl))
        case r1 =>
        simp only [Act.put,List.setIfInBounds_toArray,List.set_cons_zero,List.set_cons_succ]
        refine hY 2 83 (v:=?_) rfl rfl hHeld ?y2 ?r2
        case y2=>(intro w hSw;(try dsimp only at hSw);go_simp;try (with_reducible rfl))
        case r2 =>
        simp only [Act.put,List.setIfInBounds_toArray,List.set_cons_zero,List.set_cons_succ]
        refine hY 3 84 (v:=?_) rfl rfl hHeld ?y3 ?r3
        case y3=>(intro w hSw;(try dsimp only at hSw);go_simp;try (with_reducible rfl))
        case r3 =>
        simp only [Act.put,List.setIfInBounds_toArray,List.set_cons_zero,List.set_cons_succ]
        refine hY 4 85 (v:=?_) rfl rfl hHeld ?y4 ?r4
        case y4=>(intro w hSw;(try dsimp only at hSw);go_simp;try (with_reducible rfl))
        case r4 =>
        simp only [Act.put,List.setIfInBounds_toArray,List.set_cons_zero,List.set_cons_succ]
        refine hY 5 86 (v:=?_) rfl rfl hHeld ?y5 ?r5
        case y5=>(intro w hSw;(try dsimp only at hSw);go_simp;try (with_reducible rfl))
        case r5 =>
        simp only [Act.put,List.setIfInBounds_toArray,List.set_cons_zero,List.set_cons_succ]
        refine hY 6 87 (v:=.agg (opC y)) rfl rfl hHeld ?y6 ?r6
        case y6=>exact Ycz 41 _ rfl _ 0 rfl (fun W hW=>hW.2.2) (opC y) (fun j v hj=>by simpa using hj) _ Tryz.underlying41 rfl (by exact Ybb)
        case r6 =>
        simp only [Act.put,List.setIfInBounds_toArray,List.set_cons_zero,List.set_cons_succ]
        clear hHeld
        apply split_rest3 (R:=fun b15 b16 cs4 V=>RdN w x w.heap.size P w1.heap.size (K2+1) S' cs3 cs4 V∧V18.grownBy V none∧V18.heap.size≤b15∧V18.heap.size≤b16∧V.heap[b15]?=some (.cells sZ 36 (0,0))∧V.heap[b16]?=some (.cells rZ 46 (0,0)))
        ·intro hG
         refine wpAnyH_ready (rs:=[7,11,12]) (by kernel_rfl) (by simp) (AllReadyH.cons rfl (fun K hK=>?_) (AllReadyH.cons rfl (fun K hK=>?_) (AllReadyH.cons rfl (fun K hK=>?_) AllReadyH.nil)))
         ·try clear hHeld
          go_simp
          (go_at_call 26;go_must ((refine (HC4.out _ HG).mono ?_);rintro en w5 ⟨cs4,rfl,hN5,hg5⟩))
          have HGc:=Yaa HG hg5
          refine hK.out _ _ (HS9.out _ HGc) (fun hHeld=>?_)
          clear hK K
          try simp only [Act.put,List.setIfInBounds_toArray,List.set_cons_zero,List.set_cons_succ]
          refine hY 8 80 (v:=?_) rfl rfl hHeld ?y8 ?r8
          case y8=>(intro w hSw;(try dsimp only at hSw);go_simp;try (with_reducible rfl))
          case r8 =>
          simp only [Act.put,List.setIfInBounds_toArray,List.set_cons_zero,List.set_cons_succ]
          refine hY 9 89 (v:=?_) rfl rfl hHeld ?y9 ?r9
          case y9=>(intro w hSw;(try dsimp only at hSw);go_simp;try (with_reducible rfl))
          case r9 =>
          simp only [Act.put,List.setIfInBounds_toArray,List.set_cons_zero,List.set_cons_succ]
          refine hY 10 90 (v:=?_) rfl rfl hHeld ?y10 ?r10
          case y10=>(intro w hSw;(try dsimp only at hSw);go_simp;try (with_reducible rfl))
          case r10 =>
          simp only [Act.put,List.setIfInBounds_toArray,List.set_cons_zero,List.set_cons_succ]
          refine wpAnyH_ready (rs:=[11,12]) (by kernel_rfl) (by simp) (AllReadyH.cons rfl (fun K hK=>?_) (AllReadyH.cons rfl (fun K hK=>?_) AllReadyH.nil))
          ·try clear hHeld
           have fA:(w5.alloc (.cells sZ 36)).heap[w5.heap.size]?=some (Obj.cells sZ 36 (0,0)):=Yab w5 (.cells sZ 36)
           have GA:=Yaa HGc (World.grownBy_alloc w5 (.cells sZ 36) none)
           replace hN5:=hN5.later (World.grownBy_alloc w5 (.cells sZ 36) none)
           go_simp
           refine hK.out _ _ (HS9.out _ GA) (fun hHeld=>?_)
           clear hK K
           try simp only [Act.put,List.setIfInBounds_toArray,List.set_cons_zero,List.set_cons_succ]
           refine wpAnyH_ready (rs:=[12]) (by kernel_rfl) (by simp) (AllReadyH.cons rfl (fun K hK=>?_) AllReadyH.nil)
           try clear hHeld
           have fB:((w5.alloc (.cells sZ 36)).alloc (.cells rZ 46)).heap[w5.heap.size+1]?=some (Obj.cells rZ 46 (0,0)):=(congrArg (fun i=>((w5.alloc (.cells sZ 36)).alloc (.cells rZ 46)).heap[i]?) (by simp:w5.heap.size+1=(w5.alloc (.cells sZ 36)).heap.size)).trans (Yab (w5.alloc (.cells sZ 36)) (.cells rZ 46))
           have GB:=Yaa GA (World.grownBy_alloc (w5.alloc (.cells sZ 36)) (.cells rZ 46) none)
           replace hN5:=hN5.later (World.grownBy_alloc (w5.alloc (.cells sZ 36)) (.cells rZ 46) none)
           have aA:=Yan fA (World.grownBy_alloc (w5.alloc (.cells sZ 36)) (.cells rZ 46) none)
           go_simp
           refine hK.out _ _ (HS9.out _ GB) (fun hHeld=>?_)
           clear hK K
           try simp only [Act.put,List.setIfInBounds_toArray,List.set_cons_zero,List.set_cons_succ]
           have gz:=GB
           have l15:V18.heap.size≤w5.heap.size:=by have:=HG.size;have:=HGc.size;omega
           have l16:V18.heap.size≤w5.heap.size+1:=by have:=HG.size;have:=HGc.size;omega
           have fA9:=aA
           have fB9:=fB
           have hN9:=hN5
           obtain ⟨x16,h16⟩:∃ x,w5.heap.size+1=x:=⟨_,rfl⟩
           rw [h16] at fB9
           simp only [h16]
           obtain ⟨x15,h15⟩:∃ x,w5.heap.size=x:=⟨_,rfl⟩
           rw [h15] at fA9
           simp only [h15]
           have m15:V18.heap.size≤x15:=by omega
           have m16:V18.heap.size≤x16:=by omega
           try clear hHeld
           obtain ⟨Wz,hWz⟩:∃ Wz,((w5.alloc (.cells sZ 36)).alloc (.cells rZ 46))=Wz:=⟨_,rfl⟩
           rw [hWz] at fA9 fB9 hN9 gz
           try unfold sZ at hWz
           try unfold rZ at hWz
           rw [hWz]
           exact hG x15 x16 cs4 Wz ⟨hN9,gz,m15,m16,fA9,fB9⟩
          ·try clear hHeld
           have fB:(w5.alloc (.cells rZ 46)).heap[w5.heap.size]?=some (Obj.cells rZ 46 (0,0)):=Yab w5 (.cells rZ 46)
           have GB:=Yaa HGc (World.grownBy_alloc w5 (.cells rZ 46) none)
           replace hN5:=hN5.later (World.grownBy_alloc w5 (.cells rZ 46) none)
           go_simp
           refine hK.out _ _ (HS9.out _ GB) (fun hHeld=>?_)
           clear hK K
           try simp only [Act.put,List.setIfInBounds_toArray,List.set_cons_zero,List.set_cons_succ]
           refine wpAnyH_ready (rs:=[11]) (by kernel_rfl) (by simp) (AllReadyH.cons rfl (fun K hK=>?_) AllReadyH.nil)
           try clear hHeld
           have fA:((w5.alloc (.cells rZ 46)).alloc (.cells sZ 36)).heap[w5.heap.size+1]?=some (Obj.cells sZ 36 (0,0)):=(congrArg (fun i=>((w5.alloc (.cells rZ 46)).alloc (.cells sZ 36)).heap[i]?) (by simp:w5.heap.size+1=(w5.alloc (.cells rZ 46)).heap.size)).trans (Yab (w5.alloc (.cells rZ 46)) (.cells sZ 36))
           have GA:=Yaa GB (World.grownBy_alloc (w5.alloc (.cells rZ 46)) (.cells sZ 36) none)
           replace hN5:=hN5.later (World.grownBy_alloc (w5.alloc (.cells rZ 46)) (.cells sZ 36) none)
           have aB:=Yan fB (World.grownBy_alloc (w5.alloc (.cells rZ 46)) (.cells sZ 36) none)
           go_simp
           refine hK.out _ _ (HS9.out _ GA) (fun hHeld=>?_)
           clear hK K
           try simp only [Act.put,List.setIfInBounds_toArray,List.set_cons_zero,List.set_cons_succ]
           have gz:=GA
           have l15:V18.heap.size≤w5.heap.size+1:=by have:=HG.size;have:=HGc.size;omega
           have l16:V18.heap.size≤w5.heap.size:=by have:=HG.size;have:=HGc.size;omega
           have fA9:=fA
           have fB9:=aB
           have hN9:=hN5
           obtain ⟨x15,h15⟩:∃ x,w5.heap.size+1=x:=⟨_,rfl⟩
           rw [h15] at fA9
           simp only [h15]
           obtain ⟨x16,h16⟩:∃ x,w5.heap.size=x:=⟨_,rfl⟩
           rw [h16] at fB9
           simp only [h16]
           have m15:V18.heap.size≤x15:=by omega
           have m16:V18.heap.size≤x16:=by omega
           try clear hHeld
           obtain ⟨Wz,hWz⟩:∃ Wz,((w5.alloc (.cells rZ 46)).alloc (.cells sZ 36))=Wz:=⟨_,rfl⟩
           rw [hWz] at fA9 fB9 hN9 gz
           try unfold sZ at hWz
           try unfold rZ at hWz
           rw [hWz]
           exact Yeg (by kernel_rfl) (hG x15 x16 cs4 Wz ⟨hN9,gz,m15,m16,fA9,fB9⟩)
         ·try clear hHeld
          have fA:(V18.alloc (.cells sZ 36)).drew.heap[V18.heap.size]?=some (Obj.cells sZ 36 (0,0)):=Yab V18 (.cells sZ 36)
          have GA:V18.grownBy (V18.alloc (.cells sZ 36)).drew none:=Yah (World.grownBy_alloc V18 (.cells sZ 36) none)
          go_simp
          refine hK.out _ _ (HS9.out _ GA) (fun hHeld=>?_)
          clear hK K
          try simp only [Act.put,List.setIfInBounds_toArray,List.set_cons_zero,List.set_cons_succ]
          refine wpAnyH_ready (rs:=[7,12]) (by kernel_rfl) (by simp) (AllReadyH.cons rfl (fun K hK=>?_) (AllReadyH.cons rfl (fun K hK=>?_) AllReadyH.nil))
          ·try clear hHeld
           go_simp
           (go_at_call 26;go_must ((refine (HC4.out _ GA).mono ?_);rintro en w5 ⟨cs4,rfl,hN5,hg5⟩))
           have HGc:=Yaa GA hg5
           have cA:=Yan fA hg5
           refine hK.out _ _ (HS9.out _ HGc) (fun hHeld=>?_)
           clear hK K
           try simp only [Act.put,List.setIfInBounds_toArray,List.set_cons_zero,List.set_cons_succ]
           refine hY 8 80 (v:=?_) rfl rfl hHeld ?y8 ?r8
           case y8=>(intro w hSw;(try dsimp only at hSw);go_simp;try (with_reducible rfl))
           case r8 =>
           simp only [Act.put,List.setIfInBounds_toArray,List.set_cons_zero,List.set_cons_succ]
           refine hY 9 89 (v:=?_) rfl rfl hHeld ?y9 ?r9
           case y9=>(intro w hSw;(try dsimp only at hSw);go_simp;try (with_reducible rfl))
           case r9 =>
           simp only [Act.put,List.setIfInBounds_toArray,List.set_cons_zero,List.set_cons_succ]
           refine hY 10 90 (v:=?_) rfl rfl hHeld ?y10 ?r10
           case y10=>(intro w hSw;(try dsimp only at hSw);go_simp;try (with_reducible rfl))
           case r10 =>
           simp only [Act.put,List.setIfInBounds_toArray,List.set_cons_zero,List.set_cons_succ]
           refine wpAnyH_ready (rs:=[12]) (by kernel_rfl) (by simp) (AllReadyH.cons rfl (fun K hK=>?_) AllReadyH.nil)
           try clear hHeld
           have fB:(w5.alloc (.cells rZ 46)).heap[w5.heap.size]?=some (Obj.cells rZ 46 (0,0)):=Yab w5 (.cells rZ 46)
           have GB:=Yaa HGc (World.grownBy_alloc w5 (.cells rZ 46) none)
           replace hN5:=hN5.later (World.grownBy_alloc w5 (.cells rZ 46) none)
           have aA:=Yan cA (World.grownBy_alloc w5 (.cells rZ 46) none)
           go_simp
           refine hK.out _ _ (HS9.out _ GB) (fun hHeld=>?_)
           clear hK K
           try simp only [Act.put,List.setIfInBounds_toArray,List.set_cons_zero,List.set_cons_succ]
           have gz:=GB
           have l15:V18.heap.size≤V18.heap.size:=by have:=HG.size;have:=HGc.size;omega
           have l16:V18.heap.size≤w5.heap.size:=by have:=HG.size;have:=HGc.size;omega
           have fA9:=aA
           have fB9:=fB
           have hN9:=hN5
           obtain ⟨x15,h15⟩:∃ x,V18.heap.size=x:=⟨_,rfl⟩
           rw [h15] at fA9
           simp only [h15]
           obtain ⟨x16,h16⟩:∃ x,w5.heap.size=x:=⟨_,rfl⟩
           rw [h16] at fB9
           simp only [h16]
           have m15:V18.heap.size≤x15:=by omega
           have m16:V18.heap.size≤x16:=by omega
           try clear hHeld
           obtain ⟨Wz,hWz⟩:∃ Wz,(w5.alloc (.cells rZ 46))=Wz:=⟨_,rfl⟩
           rw [hWz] at fA9 fB9 hN9 gz
           try unfold sZ at hWz
           try unfold rZ at hWz
           rw [hWz]
           exact Yeg (by kernel_rfl) (hG x15 x16 cs4 Wz ⟨hN9,gz,m15,m16,fA9,fB9⟩)
          ·try clear hHeld
           have fB:((V18.alloc (.cells sZ 36)).alloc (.cells rZ 46)).drew.heap[V18.heap.size+1]?=some (Obj.cells rZ 46 (0,0)):=(congrArg (fun i=>((V18.alloc (.cells sZ 36)).alloc (.cells rZ 46)).drew.heap[i]?) (by simp:V18.heap.size+1=(V18.alloc (.cells sZ 36)).heap.size)).trans (Yab (V18.alloc (.cells sZ 36)) (.cells rZ 46))
           have GB:V18.grownBy ((V18.alloc (.cells sZ 36)).alloc (.cells rZ 46)).drew none:=Yah (Yaa (World.grownBy_alloc V18 (.cells sZ 36) none) (World.grownBy_alloc (V18.alloc (.cells sZ 36)) (.cells rZ 46) none))
           have aA:((V18.alloc (.cells sZ 36)).alloc (.cells rZ 46)).drew.heap[V18.heap.size]?=some (Obj.cells sZ 36 (0,0)):=Yan (W:=(V18.alloc (.cells sZ 36))) (W1:=((V18.alloc (.cells sZ 36)).alloc (.cells rZ 46))) fA (World.grownBy_alloc (V18.alloc (.cells sZ 36)) (.cells rZ 46) none)
           go_simp
           refine hK.out _ _ (HS9.out _ GB) (fun hHeld=>?_)
           clear hK K
           try simp only [Act.put,List.setIfInBounds_toArray,List.set_cons_zero,List.set_cons_succ]
           refine wpAnyH_ready (rs:=[7]) (by kernel_rfl) (by simp) (AllReadyH.cons rfl (fun K hK=>?_) AllReadyH.nil)
           try clear hHeld
           go_simp
           (go_at_call 26;go_must ((refine (HC4.out _ GB).mono ?_);rintro en w5 ⟨cs4,rfl,hN5,hg5⟩))
           have HGc:=Yaa GB hg5
           have cA:=Yan aA hg5
           have cB:=Yan fB hg5
           refine hK.out _ _ (HS9.out _ HGc) (fun hHeld=>?_)
           clear hK K
           try simp only [Act.put,List.setIfInBounds_toArray,List.set_cons_zero,List.set_cons_succ]
           refine hY 8 80 (v:=?_) rfl rfl hHeld ?y8 ?r8
           case y8=>(intro w hSw;(try dsimp only at hSw);go_simp;try (with_reducible rfl))
           case r8 =>
           simp only [Act.put,List.setIfInBounds_toArray,List.set_cons_zero,List.set_cons_succ]
           refine hY 9 89 (v:=?_) rfl rfl hHeld ?y9 ?r9
           case y9=>(intro w hSw;(try dsimp only at hSw);go_simp;try (with_reducible rfl))
           case r9 =>
           simp only [Act.put,List.setIfInBounds_toArray,List.set_cons_zero,List.set_cons_succ]
           refine hY 10 90 (v:=?_) rfl rfl hHeld ?y10 ?r10
           case y10=>(intro w hSw;(try dsimp only at hSw);go_simp;try (with_reducible rfl))
           case r10 =>
           simp only [Act.put,List.setIfInBounds_toArray,List.set_cons_zero,List.set_cons_succ]
           have gz:=HGc
           have l15:V18.heap.size≤V18.heap.size:=by have:=HG.size;have:=HGc.size;omega
           have l16:V18.heap.size≤V18.heap.size+1:=by have:=HG.size;have:=HGc.size;omega
           have fA9:=cA
           have fB9:=cB
           have hN9:=hN5
           obtain ⟨x16,h16⟩:∃ x,V18.heap.size+1=x:=⟨_,rfl⟩
           rw [h16] at fB9
           simp only [h16]
           obtain ⟨x15,h15⟩:∃ x,V18.heap.size=x:=⟨_,rfl⟩
           rw [h15] at fA9
           simp only [h15]
           have m15:V18.heap.size≤x15:=by omega
           have m16:V18.heap.size≤x16:=by omega
           try clear hHeld
           exact Yeg (by kernel_rfl) (hG x15 x16 cs4 w5 ⟨hN9,gz,m15,m16,fA9,fB9⟩)
         ·try clear hHeld
          have fB:(V18.alloc (.cells rZ 46)).drew.heap[V18.heap.size]?=some (Obj.cells rZ 46 (0,0)):=Yab V18 (.cells rZ 46)
          have GB:V18.grownBy (V18.alloc (.cells rZ 46)).drew none:=Yah (World.grownBy_alloc V18 (.cells rZ 46) none)
          go_simp
          refine hK.out _ _ (HS9.out _ GB) (fun hHeld=>?_)
          clear hK K
          try simp only [Act.put,List.setIfInBounds_toArray,List.set_cons_zero,List.set_cons_succ]
          refine wpAnyH_ready (rs:=[7,11]) (by kernel_rfl) (by simp) (AllReadyH.cons rfl (fun K hK=>?_) (AllReadyH.cons rfl (fun K hK=>?_) AllReadyH.nil))
          ·try clear hHeld
           go_simp
           (go_at_call 26;go_must ((refine (HC4.out _ GB).mono ?_);rintro en w5 ⟨cs4,rfl,hN5,hg5⟩))
           have HGc:=Yaa GB hg5
           have cB:=Yan fB hg5
           refine hK.out _ _ (HS9.out _ HGc) (fun hHeld=>?_)
           clear hK K
           try simp only [Act.put,List.setIfInBounds_toArray,List.set_cons_zero,List.set_cons_succ]
           refine hY 8 80 (v:=?_) rfl rfl hHeld ?y8 ?r8
           case y8=>(intro w hSw;(try dsimp only at hSw);go_simp;try (with_reducible rfl))
           case r8 =>
           simp only [Act.put,List.setIfInBounds_toArray,List.set_cons_zero,List.set_cons_succ]
           refine hY 9 89 (v:=?_) rfl rfl hHeld ?y9 ?r9
           case y9=>(intro w hSw;(try dsimp only at hSw);go_simp;try (with_reducible rfl))
           case r9 =>
           simp only [Act.put,List.setIfInBounds_toArray,List.set_cons_zero,List.set_cons_succ]
           refine hY 10 90 (v:=?_) rfl rfl hHeld ?y10 ?r10
           case y10=>(intro w hSw;(try dsimp only at hSw);go_simp;try (with_reducible rfl))
           case r10 =>
           simp only [Act.put,List.setIfInBounds_toArray,List.set_cons_zero,List.set_cons_succ]
           refine wpAnyH_ready (rs:=[11]) (by kernel_rfl) (by simp) (AllReadyH.cons rfl (fun K hK=>?_) AllReadyH.nil)
           try clear hHeld
           have fA:(w5.alloc (.cells sZ 36)).heap[w5.heap.size]?=some (Obj.cells sZ 36 (0,0)):=Yab w5 (.cells sZ 36)
           have GA:=Yaa HGc (World.grownBy_alloc w5 (.cells sZ 36) none)
           replace hN5:=hN5.later (World.grownBy_alloc w5 (.cells sZ 36) none)
           have aB:=Yan cB (World.grownBy_alloc w5 (.cells sZ 36) none)
           go_simp
           refine hK.out _ _ (HS9.out _ GA) (fun hHeld=>?_)
           clear hK K
           try simp only [Act.put,List.setIfInBounds_toArray,List.set_cons_zero,List.set_cons_succ]
           have gz:=GA
           have l15:V18.heap.size≤w5.heap.size:=by have:=HG.size;have:=HGc.size;omega
           have l16:V18.heap.size≤V18.heap.size:=by have:=HG.size;have:=HGc.size;omega
           have fA9:=fA
           have fB9:=aB
           have hN9:=hN5
           obtain ⟨x15,h15⟩:∃ x,w5.heap.size=x:=⟨_,rfl⟩
           rw [h15] at fA9
           simp only [h15]
           obtain ⟨x16,h16⟩:∃ x,V18.heap.size=x:=⟨_,rfl⟩
           rw [h16] at fB9
           simp only [h16]
           have m15:V18.heap.size≤x15:=by omega
           have m16:V18.heap.size≤x16:=by omega
           try clear hHeld
           obtain ⟨Wz,hWz⟩:∃ Wz,(w5.alloc (.cells sZ 36))=Wz:=⟨_,rfl⟩
           rw [hWz] at fA9 fB9 hN9 gz
           try unfold sZ at hWz
           try unfold rZ at hWz
           rw [hWz]
           exact Yeg (by kernel_rfl) (hG x15 x16 cs4 Wz ⟨hN9,gz,m15,m16,fA9,fB9⟩)
          ·try clear hHeld
           have fA:((V18.alloc (.cells rZ 46)).alloc (.cells sZ 36)).drew.heap[V18.heap.size+1]?=some (Obj.cells sZ 36 (0,0)):=(congrArg (fun i=>((V18.alloc (.cells rZ 46)).alloc (.cells sZ 36)).drew.heap[i]?) (by simp:V18.heap.size+1=(V18.alloc (.cells rZ 46)).heap.size)).trans (Yab (V18.alloc (.cells rZ 46)) (.cells sZ 36))
           have GA:V18.grownBy ((V18.alloc (.cells rZ 46)).alloc (.cells sZ 36)).drew none:=Yah (Yaa (World.grownBy_alloc V18 (.cells rZ 46) none) (World.grownBy_alloc (V18.alloc (.cells rZ 46)) (.cells sZ 36) none))
           have aB:((V18.alloc (.cells rZ 46)).alloc (.cells sZ 36)).drew.heap[V18.heap.size]?=some (Obj.cells rZ 46 (0,0)):=Yan (W:=(V18.alloc (.cells rZ 46))) (W1:=((V18.alloc (.cells rZ 46)).alloc (.cells sZ 36))) fB (World.grownBy_alloc (V18.alloc (.cells rZ 46)) (.cells sZ 36) none)
           go_simp
           refine hK.out _ _ (HS9.out _ GA) (fun hHeld=>?_)
           clear hK K
           try simp only [Act.put,List.setIfInBounds_toArray,List.set_cons_zero,List.set_cons_succ]
           refine wpAnyH_ready (rs:=[7]) (by kernel_rfl) (by simp) (AllReadyH.cons rfl (fun K hK=>?_) AllReadyH.nil)
           try clear hHeld
           go_simp
           (go_at_call 26;go_must ((refine (HC4.out _ GA).mono ?_);rintro en w5 ⟨cs4,rfl,hN5,hg5⟩))
           have HGc:=Yaa GA hg5
           have cB:=Yan aB hg5
           have cA:=Yan fA hg5
           refine hK.out _ _ (HS9.out _ HGc) (fun hHeld=>?_)
           clear hK K
           try simp only [Act.put,List.setIfInBounds_toArray,List.set_cons_zero,List.set_cons_succ]
           refine hY 8 80 (v:=?_) rfl rfl hHeld ?y8 ?r8
           case y8=>(intro w hSw;(try dsimp only at hSw);go_simp;try (with_reducible rfl))
           case r8 =>
           simp only [Act.put,List.setIfInBounds_toArray,List.set_cons_zero,List.set_cons_succ]
           refine hY 9 89 (v:=?_) rfl rfl hHeld ?y9 ?r9
           case y9=>(intro w hSw;(try dsimp only at hSw);go_simp;try (with_reducible rfl))
           case r9 =>
           simp only [Act.put,List.setIfInBounds_toArray,List.set_cons_zero,List.set_cons_succ]
           refine hY 10 90 (v:=?_) rfl rfl hHeld ?y10 ?r10
           case y10=>(intro w hSw;(try dsimp only at hSw);go_simp;try (with_reducible rfl))
           case r10 =>
           simp only [Act.put,List.setIfInBounds_toArray,List.set_cons_zero,List.set_cons_succ]
           have gz:=HGc
           have l15:V18.heap.size≤V18.heap.size+1:=by have:=HG.size;have:=HGc.size;omega
           have l16:V18.heap.size≤V18.heap.size:=by have:=HG.size;have:=HGc.size;omega
           have fA9:=cA
           have fB9:=cB
           have hN9:=hN5
           obtain ⟨x15,h15⟩:∃ x,V18.heap.size+1=x:=⟨_,rfl⟩
           rw [h15] at fA9
           simp only [h15]
           obtain ⟨x16,h16⟩:∃ x,V18.heap.size=x:=⟨_,rfl⟩
           rw [h16] at fB9
           simp only [h16]
           have m15:V18.heap.size≤x15:=by omega
           have m16:V18.heap.size≤x16:=by omega
           try clear hHeld
           exact Yeg (by kernel_rfl) (hG x15 x16 cs4 w5 ⟨hN9,gz,m15,m16,fA9,fB9⟩)
        ·intro b15 b16 cs4 V ⟨hN,gV,l15,l16,p15,p16⟩
         have hx15:x≠b15:=by omega
         have hr15:w.heap.size≠b15:=by omega
         have hx16:x≠b16:=by omega
         have hr16:w.heap.size≠b16:=by omega
         have hbn15:b≠b15:=by omega
         have hbn16:b≠b16:=by omega
         have p13V:=Yan HP13'.out gV
         have p14V:=Yan HP14.out gV
         have h1315:b13≠b15:=Ybu p13V p15 (by decide)
         have h1316:b13≠b16:=Ybu p13V p16 (by decide)
         have h1516:b15≠b16:=Ybu p15 p16 (by decide)
         refine wpAnyH_ready (rs:=[13]) (by kernel_rfl) (by simp) (AllReadyH.cons rfl (fun K hK=>?_) AllReadyH.nil)
         refine Ybe rfl 36 _ _ rfl _ 0 rfl rfl p15 (by rw [hN.t0];exact Nat.le_refl _) (by rw [Yai,hN.t0]) hN.t1 ?_
         intro W9 p9 g9
         rw [Yau _ _ hN.t0] at p9
         have hN9:=hN.past g9 p15 (by omega) hx15 hr15 Ybt (by decide) (by decide)
         have p139:=Ya3 p13V g9 h1315
         have p169:=Ya3 p16 g9 (Ne.symm h1516)
         have p149:=Ya3 p14V g9 (by omega)
         refine hK.out _ _ ⟨hN9.bx,HC0.out _ hN9.pl.gr,p139⟩ (fun hHeld=>?_)
         clear hK K
         try simp only [Act.put,List.setIfInBounds_toArray,List.set_cons_zero,List.set_cons_succ]
         refine wpAnyH_ready (rs:=[14]) (by kernel_rfl) (by simp) (AllReadyH.cons rfl (fun K hK=>?_) AllReadyH.nil)
         refine Ybe rfl 46 _ _ rfl _ 0 rfl rfl p169 (by exact Nat.le_refl _) (by exact Ya0) (by simp [Value.oneCell']) ?_
         intro W10 p10 g10
         rw [Yau _ _ (by rfl)] at p10
         have hN10:=hN9.past g10 p169 (by omega) hx16 hr16 boxRs (by decide) (by decide)
         have p1310:=Ya3 p139 g10 h1316
         have p910:=Ya3 p9 g10 h1516
         have p1410:=Ya3 p149 g10 (by omega)
         refine hK.out _ _ ⟨hN10.bx,HC0.out _ hN10.pl.gr,p1310⟩ (fun hHeld=>?_)
         clear hK K
         try simp only [Act.put,List.setIfInBounds_toArray,List.set_cons_zero,List.set_cons_succ]
         refine wpAnyH_done (by kernel_rfl) ?_ _
         clear hHeld
         have b10:=hN10.bx
         have e0:((e:Int) == (e:Int))=true:=by simp
         have e1:((p:Int) == (p:Int))=true:=by simp
         have e2:((q:Int) == (q:Int))=true:=by simp
         have ht0:=hN.t0
         have ht1:=hN.t1
         have h14x:b14≠x:=(Ybu b10 p1410 (by decide)).symm
         have h16x:b16≠x:=Ne.symm hx16
         clear p13V p14V p139 p169 p149 p1310 hN hN9 p15 p16 p9 gV
         go_wp2_with (first
          | (refine Yad rfl 36 _ rfl _ 0 rfl p910 cs4 (fun j v hj=>by simpa using hj) _ Tryz.underlying36 rfl (by rw [Yai,ht0]) ?_)
          | (refine Yae rfl 36 _ _ rfl _ 0 rfl rfl b10 (by rw [ht0];exact (by rw [hs3];exact Nat.le_refl _)) (by rw [Yai,ht0]) ht1 ?_;intro W11 p11 g11;rw [Yau _ _ (by rw [ht0,hs3])] at p11;have hN11:=hN10.put g11 p11;obtain ⟨m0,m1,m2⟩:=Yaf (Ya3 p1410 g11 h14x);obtain ⟨n0,n1,n2⟩:=Yaf (Ya3 p10 g11 h16x)))
         go_roundw
         case rel=>exact ⟨k2+1,K2+1,S',cs4,by omega,by omega,by go_num,rfl,hN11⟩
         case measure=>simp [intOf];omega
    ·have h2':¬ (k2:Int)<(n:Int):=by omega
     have hs0:=hR2.t0
     have HR2:=Lib.hid hR2
     have HKF:Hid (K2≤100):=Lib.hid (by omega)
     clear h2 hK2 hk2 hR2
     go_wp2
     have HG:wr.grownBy wr.drew none:=Yah (Yag _ _)
     have hRd:=HR2.out.later HG
     refine wp_region_held_drew (S:=fun V=>V.heap[x]?=some (.cells cs3 36 (0,0))) (by kernel_rfl) hRd.bx (fun hHeld=>?_)
     refine hY 0 98 (v:=?_) rfl rfl hHeld ?y0 ?r0
     case y0=>(intro w hSw;(try dsimp only at hSw);go_simp;try (with_reducible rfl))
     case r0 =>
     simp only [Act.put,List.setIfInBounds_toArray,List.set_cons_zero,List.set_cons_succ]
     refine hY 1 99 (v:=.agg cs3) rfl rfl hHeld ?y1 ?r1
     case y1=>exact Ycz 36 _ rfl _ 0 rfl (fun W hW=>hW) cs3 (fun j v hj=>by simpa using hj) _ Tryz.underlying36 rfl (by rw [Yai,hs0])
     case r1 =>
     simp only [Act.put,List.setIfInBounds_toArray,List.set_cons_zero,List.set_cons_succ]
     refine hY 2 100 (v:=?_) rfl rfl hHeld ?y2 ?r2
     case y2=>(intro w hSw;(try dsimp only at hSw);go_simp;try (with_reducible rfl))
     case r2 =>
     simp only [Act.put,List.setIfInBounds_toArray,List.set_cons_zero,List.set_cons_succ]
     refine hY 3 2 (v:=?_) rfl rfl hHeld ?y3 ?r3
     case y3=>(intro w hSw;(try dsimp only at hSw);go_simp;try (with_reducible rfl))
     case r3 =>
     simp only [Act.put,List.setIfInBounds_toArray,List.set_cons_zero,List.set_cons_succ]
     refine wpAnyH_ready (rs:=[4]) (by kernel_rfl) (by simp) (AllReadyH.cons rfl (fun K hK=>?_) AllReadyH.nil)
     refine Ybe rfl 36 _ _ rfl _ 0 rfl rfl hRd.rs (by rw [hs0];exact Nat.le_refl _) (by rw [Yai,hs0]) hRd.t1 ?_
     intro W9 p9 g9
     rw [Yau _ _ (by rw [hs0];rfl)] at p9
     have hb9:=Ya3 hRd.bx g9 hRd.ne
     refine hK.out _ _ hb9 (fun hHeld=>?_)
     clear hK K
     try simp only [Act.put,List.setIfInBounds_toArray,List.set_cons_zero,List.set_cons_succ]
     refine hY 5 4 (v:=?_) rfl rfl hHeld ?y5 ?r5
     case y5=>(intro w hSw;(try dsimp only at hSw);go_simp;try (with_reducible rfl))
     case r5 =>
     simp only [Act.put,List.setIfInBounds_toArray,List.set_cons_zero,List.set_cons_succ]
     refine wpAnyH_done (by kernel_rfl) ?_ _
     go_wp2
     refine bodyPost_ret (results_tct rfl _ rfl rfl rfl p9 Tryz.underlying36 rfl (by rw [Yai,hs0])) rfl ?_
     exact ⟨P,w1.heap.size,K2,S2,cs3,rfl,hs0,by simpa using hRd.t1,HKF.out,hRd.pl.past g9 hRd.rs hRd.lr Ybt (by decide) (by decide)⟩
end
end
end Go.Proofs.YtfhiljglfhekdaaGreat
