/-
  Texts of one layer, one behind the other: memory, contracts of the functions, and what follows of them.
  Conditions: as each theorem says.
-/
import Derived.Test.YtfhiljglfhekdaaGreatLKcb
import Derived.Test.YtfhiljglfhekdaaGreatLSea
import Derived.Test.YtfhiljglfhekdaaGreatLTra
import Derived.Test.YtfhiljglfhekdaaGreatLCab
set_option linter.unusedVariables false
set_option linter.unusedSimpArgs false
set_option maxRecDepth 100000
namespace Go.Proofs.YtfhiljglfhekdaaGreat
open Go.RowKit
section
section
variable {w w':World} {P g cap n all i:Nat} {f:Nat→KB} {mv:Value} {lv:Nat→Bool}
def KB.sized (x:KB) (s:Nat):KB:=⟨⟨x.b.off,s,x.b.u,x.b.o,x.b.n⟩,x.a,x.m,x.c,x.d⟩
def Ya9 (off s:Nat):KB:=⟨Ya4 off s,none,0,0,[]⟩
def splF (f:Nat→KB) (i size:Nat):Nat→KB:=insF (updK f i ((f i).sized size)) (i+1) (Ya9 ((f i).b.off+size) ((f i).b.s - size))
def Moved (w w':World) (P g all n':Nat) (f':Nat→KB) (mv:Value) (lv:Nat→Bool):Prop:=∃ g' cap',StB w' P g' cap' n' all f' mv lv∧Ybo (fun i=>i=P∨i=g) w w'∧(g'=g∨w.heap.size≤g')
set_option maxHeartbeats 4000000 in
theorem split_any (h:StB w P g cap n all f mv lv) (hn:n≤900) (hPg:P≠g) (hi:i<n) {size:Nat} (hsz:size≤(f i).b.s) (hlt:(f i).b.off+(f i).b.s<1000000000) :
  Calls Tryz.prog 112 #[.pointer (some ⟨P,0,none⟩),.int .i64 i,.int .u64 size] w fun e w'=>e=.returned (.tuple #[])∧Moved w w' P g all (n+1) (splF f i size) mv lv:=by
 have hi':(i:Int)<(n:Int):=by omega
 obtain ⟨x,hx⟩:∃ x,f i=x:=⟨_,rfl⟩
 obtain ⟨e0,e1,e2⟩:=h.cells
 obtain ⟨c0,c1,c2,c3,c4,c5⟩:=h.row.cells hi
 have hfz:=h.row.frz (i*6+1)
 have hgb:=h.row.lt
 rw [hx] at c0 c1 c2 c3 c4 c5 hsz hlt
 have HX:=Lib.hid hx
 have HH:=Lib.hid h
 obtain ⟨⟨x0,x1,x2,x3,x4⟩,xa,xm,xc,xd⟩:=x
 simp only at c0 c1 c2 c3 c4 c5 hsz hlt
 obtain ⟨r0,hr0⟩:∃ r0,x0+size=r0:=⟨_,rfl⟩
 obtain ⟨r1,hr1⟩:∃ r1,x1 - size=r1:=⟨_,rfl⟩
 have w1:IntKind.u64.wrap ((x0:Int)+(size:Int))=(r0:Nat):=by rw [IntKind.wrap_u64];omega
 have w2:IntKind.u64.wrap ((x1:Int) - (size:Int))=(r1:Nat):=by rw [IntKind.wrap_u64];omega
 have w3:IntKind.i64.wrap ((i:Int)+1)=(i:Int)+1:=by rw [IntKind.wrap_i64];omega
 have HR:=Lib.hid (And.intro hr0 hr1)
 clear hr0 hr1 hsz hlt h hx
 have d0:w.drew.cell? ⟨g,i*6,none⟩=some (.int .u64 (x0:Nat)):=c0
 have d1:w.drew.cell? ⟨g,i*6+1,none⟩=some (.int .u64 (x1:Nat)):=c1
 go_enter Tryz.func112,Tryz.ntmps112
 go_wp2
 go_region_law (fail)
 all_goals
  obtain ⟨W1,hW1⟩:∃ W1,(w.alloc (.cells #[.int .u64 (r0:Nat),.int .u64 (r1:Nat),.bool false,.int .i64 0,.int .u64 0,.slice none 0 0] 53)).drew=W1:=⟨_,rfl⟩
  have hg1:w.grownBy W1 none:=by rw [← hW1];exact Yah (World.grownBy_alloc _ _ _)
  have hbx:W1.heap[w.heap.size]?=some (.cells #[.int .u64 (r0:Nat),.int .u64 (r1:Nat),.bool false,.int .i64 0,.int .u64 0,.slice none 0 0] 53 (0,0)):=by rw [← hW1];exact Yab w _
  rw [hW1]
  clear c0 c1 c2 c3 c4 c5 d0 d1 e0 e1 e2 hW1
  have c1:=((HH.out.later hg1).row.cells hi).2.1
  rw [HX.out] at c1
  replace c1:W1.cell? ⟨g,i*6+1,none⟩=some (.int .u64 (x1:Nat)):=c1
  have s1:=(HH.out.later hg1).row.frz (i*6+1)
  obtain ⟨W2,hW2⟩:∃ W2,W1.setCell ⟨g,i*6+1,none⟩ (.int .u64 (size:Nat))=W2:=⟨_,rfl⟩
  have hr2:=(HH.out.later hg1).row.set (v:=.int .u64 (size:Nat)) (x:=(f i).sized size) hi (show 1<6 by decide) (by rw [HX.out];rfl)
  have hg2:=Yac W1 g (i*6+1) (.int .u64 (size:Nat))
  rw [hW2] at hr2 hg2
  have hst2:=(HH.out.later hg1).turn hr2 hg2 hPg
  have hbx2:=(hg2.block _ (lt_of_block hbx) (by simp;omega)).trans hbx
  have hgs:=hg2.size
  have hls:=lt_of_block hbx
  have hG2:w.grownBy W2 (some g):=Yaa (Yam hg1 _) hg2
  have HS2:=Lib.hid hst2
  have HB2:=Lib.hid hbx2
  have HG2:=Lib.hid hG2
  clear hr2 hg2 hst2 hbx hbx2 hg1 hG2
  go_wp2
  obtain ⟨W3,hW3⟩:∃ W3,(W2.alloc (.cells #[.int .u64 (r0:Nat),.int .u64 (r1:Nat),.bool false,.int .i64 0,.int .u64 0,.slice none 0 0] 53)).drew=W3:=⟨_,rfl⟩
  have hg3:W2.grownBy W3 none:=by rw [← hW3];exact Yah (World.grownBy_alloc _ _ _)
  have hlit:W3.heap[W2.heap.size]?=some (.cells #[.int .u64 (r0:Nat),.int .u64 (r1:Nat),.bool false,.int .i64 0,.int .u64 0,.slice none 0 0] 53 (0,0)):=by rw [← hW3];exact Yab W2 _
  have hst3:=HS2.out.later hg3
  have hins:=insert_any (p:=i+1) (vb:=W2.heap.size) (x:=Ya9 r0 r1) hst3.row (by omega) (by omega) hlit (by have:=HS2.out.row.lt;omega)
  replace hins:Calls Tryz.prog 137 #[.slice (some ⟨g,0,none⟩) n cap,.int .i64 ((i:Int)+1),.slice (some ⟨W2.heap.size,0,none⟩) 1 1] W3 _:=hins
  have hA:∀ V,W2.grownBy V none→(V.cell? ⟨P,1,none⟩=some (.slice (some ⟨g,0,none⟩) n cap))∧V.heap[w.heap.size]?=some (.cells #[.int .u64 (r0:Nat),.int .u64 (r1:Nat),.bool false,.int .i64 0,.int .u64 0,.slice none 0 0] 53 (0,0)):=fun V hV=>⟨(HS2.out.later hV).cells.2.1,(hV.block _ (lt_of_block HB2.out) (by simp)).trans HB2.out⟩
  obtain ⟨a1,ab⟩:=hA W2.drew (Yah (Yag _ _))
  obtain ⟨b1,bb⟩:=hA (W2.alloc (.cells #[.int .u64 (r0:Nat),.int .u64 (r1:Nat),.bool false,.int .i64 0,.int .u64 0,.slice none 0 0] 53)) (World.grownBy_alloc _ _ _)
  obtain ⟨n1,nb⟩:=hA W3 hg3
  obtain ⟨n2,n3,n4,n5,n6,n7⟩:=Ya5 nb
  obtain ⟨k0,k1,k2,k3,k4,k5⟩:=Ya5 ab
  obtain ⟨l0,l1,l2,l3,l4,l5⟩:=Ya5 bb
  have HA:=Lib.hid hA
  have HST3:=Lib.hid hst3
  have HG3:=Lib.hid hg3
  clear ab bb nb hA hlit hst3 hg3
  go_region_law (first|(go_simp;go_at_call 137;go_must ((with_reducible refine hins.mono ?_);rintro e w8 ⟨v8,rfl,g8,cap8,rfl,hr8,hg8,hl8⟩;have hbx8:=(hg8.block _ (lt_of_block HST3.out.box) (fun e=>hPg (by injection e))).trans HST3.out.box;have m1:w8.cell? ⟨P,1,none⟩=some (.slice (some ⟨g,0,none⟩) n cap):=(by simp [World.cell?,hbx8,stC]);have m2:w8.frozen? ⟨P,1,none⟩=false:=(by simp [World.frozen?,hbx8]))))
  all_goals
   go_end0
   refine ⟨rfl,g8,cap8,⟨by rw [Yar hbx8];rfl,?_⟩,?_,?_⟩
   ·have he:splF f i size=insF (updK f i ((f i).sized size)) (i+1) (Ya9 r0 r1):=by unfold splF;rw [HX.out,← HR.out.1,← HR.out.2]
    rw [he]
    exact hr8.other hbx8 (by decide) (Yac _ _ _ _)
   ·have hG8:=Yaa (Yaa HG2.out (Yam HG3.out _)) hg8
    exact Ybx (Ybm hG8 (p:=fun i=>i=P∨i=g) (fun i h=>.inr (by injection h with h;exact h.symm))) (Ybm (Yac _ _ _ _) (p:=fun i=>i=P∨i=g) (fun i h=>.inl (by injection h with h;exact h.symm))) (fun i h=>.inl h)
   ·have:=HG2.out.size
    have:=HG3.out.size
    rcases hl8 with h|h
    ·exact .inl h
    ·exact .inr (by omega)
end
end
section
def ovL (e d:List Nat):List Nat:=(List.range e.length).map fun i=>if i<d.length then d.getD i 0 else e.getD i 0
theorem ovL_len (e d:List Nat):(ovL e d).length=e.length:=by simp [ovL]
theorem ovL_zero (k:Nat) (d:List Nat):ovL (List.replicate k 0) d=(List.range k).map fun i=>d.getD i 0:=by
 unfold ovL
 rw [List.length_replicate]
 refine List.map_congr_left fun i hi=>?_
 split
 ·rfl
 ·rename_i h
  rw [List.getD_eq_getElem?_getD,List.getD_eq_getElem?_getD,List.getElem?_replicate,if_pos (List.mem_range.1 hi),List.getElem?_eq_none (by omega)]
  rfl
section
variable {w w':World} {P g cap n all i:Nat} {f:Nat→KB} {mv:Value} {lv:Nat→Bool}
theorem cellsU_at (l:List Nat) (i:Nat):(Ybi l)[i]?=(l[i]?).map fun x=>Value.int .u64 (x:Nat):=by unfold Ybi;rw [List.getElem?_map]
theorem ownW_block {N c k:Nat} {e:List Nat} (h:OwnW w 0 (.slice (some ⟨N,0,none⟩) k c) e):k=e.length∧k≤c∧c≤maxLen∧∃ cur:Array Value,w.heap[N]?=some (.cells cur 26 (0,0))∧cur.size=c∧∀ i,i<e.length→cur[i]?=(e[i]?).map fun x=>Value.int .u64 (x:Nat):=by
 rcases h.2 with ⟨h1,_⟩|⟨g,cap,cur,hv,_,hg,h3,h4,h5,h6⟩
 ·cases h1
 ·injection hv with e1 e2 e3
  injection e1 with e1
  injection e1 with e1
  subst e1 e3
  refine ⟨e2,by omega,h4,cur,hg,by omega,fun i hi=>?_⟩
  rw [← cellsU_at,← h6,List.getElem?_take_of_lt (by omega)]
  simp
theorem run_copy_words {N c k:Nat} {e d:List Nat} (h:OwnW w 0 (.slice (some ⟨N,0,none⟩) k c) e) {da:Option Addr} {m dc:Nat} (hd:Yb1 w da d) (hm:d.length=m) (ty:TypeId) :
  ∃ v' w',(Builtin.copy_ #[28,28] ty #[.slice (some ⟨N,0,none⟩) k c,.slice da m dc]).run Tryz.prog w=.ok v' w'∧OwnW w' 0 (.slice (some ⟨N,0,none⟩) k c) (ovL e d)∧w.grownBy w' (some N):=by
 obtain ⟨hk,hkc,hcm,cur,hg,hs,hat⟩:=ownW_block h
 have hsz:(Tryz.prog.info? 26).map (·.size)=some 1:=by kernel_rfl
 by_cases h0:Nat.min m k=0
 ·have hr:=run_copy_none (P:=Tryz.prog) w 28 28 ty 26 (some ⟨N,0,none⟩) da k c m dc Tryz.underlying28 hsz h0
  refine ⟨_,_,hr,?_,Yam (Yag _ _) _⟩
  have he:ovL e d=e:=by
   apply List.ext_getElem?
   intro i
   unfold ovL
   rw [List.getElem?_map]
   by_cases hi:i<e.length
   ·rw [List.getElem?_range hi,Option.map_some,if_neg (by
     have:m=0∨k=0:=by
      simp only [Nat.min_def] at h0
      split at h0 <;> omega
     omega),List.getD_eq_getElem?_getD,List.getElem?_eq_getElem hi];rfl
   ·rw [List.getElem?_eq_none (by simp;omega),List.getElem?_eq_none (by omega)];rfl
  rw [he];exact h
 ·have hm0:0<d.length:=by
   simp only [Nat.min_def] at h0
   split at h0 <;> omega
  obtain ⟨b,off,rfl,hb,hcs⟩:=hd.cells hm0
  have hq:Nat.min m k≤d.length∧Nat.min m k≤e.length:=by
   simp only [Nat.min_def]
   split <;> omega
  obtain ⟨q,hqe⟩:∃ q,Nat.min m k=q:=⟨_,rfl⟩
  rw [hqe] at hq
  have hql:q=d.length∨q=e.length:=by
   rw [← hqe];simp only [Nat.min_def]
   split <;> omega
  have hl:(Ybi (d.take q)).length=q:=by simp [Ybi];omega
  have hr:=run_copy_cells (P:=Tryz.prog) w 28 28 ty 26 N 0 k c ⟨b,off,none⟩ m dc (Ybi (d.take q)) Tryz.underlying28 hsz (by rw [hl];exact hqe.symm)
   (fun j v hj=>by
    rw [cellsU_at,List.getElem?_take] at hj
    split at hj
    ·rename_i hjq
     rw [List.getElem?_eq_getElem (by omega)] at hj
     simp only [Option.map_some,Option.some.injEq] at hj
     rw [Addr.add_lit,hcs j (by omega),← hj,List.getD_eq_getElem?_getD,List.getElem?_eq_getElem (by omega)]
     rfl
    ·cases hj)
   (fun j hj=>by rw [hl] at hj;simp [World.cell?,hg];omega) (fun j hj=>by simp [World.frozen?,hg]) (fun v hv=>by
    obtain ⟨x,_,rfl⟩:=List.mem_map.1 hv
    rfl)
  obtain ⟨q1,q2⟩:=Yc5 (b:=N) (Ybi (d.take q)) w cur 0 hg
  refine ⟨_,_,hr,⟨by simp [Ybi],.inr ⟨N,c,_,by rw [hk,ovL_len],Nat.zero_le _,q1,by rw [ovL_len];omega,hcm,by rw [ovrK_size];omega,?_⟩⟩,q2⟩
  apply List.ext_getElem?
  intro i
  rw [cellsU_at]
  by_cases hi:i<e.length
  ·rw [List.getElem?_take_of_lt (by rw [ovL_len];omega)]
   have h1:=ovrK_at (Ybi (d.take q)) cur 0 i (by rw [hl];omega)
   rw [hl] at h1
   have h2:(ovrK cur 0 (Ybi (d.take q))).toList[i]?=(ovrK cur 0 (Ybi (d.take q)))[i]?:=by simp
   rw [h2,h1]
   unfold ovL
   rw [List.getElem?_map,List.getElem?_range hi]
   simp only [Option.map_some]
   by_cases hiq:i<q
   ·rw [if_pos ⟨Nat.zero_le _,by omega⟩,Nat.sub_zero,cellsU_at,List.getElem?_take_of_lt hiq,if_pos (by omega),List.getElem?_eq_getElem (by omega),List.getD_eq_getElem?_getD,List.getElem?_eq_getElem (by omega)];rfl
   ·rw [if_neg (by omega),if_neg (by omega),hat i hi,List.getElem?_eq_getElem hi,List.getD_eq_getElem?_getD,List.getElem?_eq_getElem hi];rfl
  ·rw [List.getElem?_eq_none (by rw [List.length_take,ovL_len];omega),List.getElem?_eq_none (by rw [ovL_len];omega)];rfl
theorem wpList_copy_words {N c k:Nat} {e d:List Nat} (h:OwnW w 0 (.slice (some ⟨N,0,none⟩) k c) e) {da:Option Addr} {m dc:Nat} (hd:Yb1 w da d) (hm:d.length=m)
  {ops:Array Oper} {rest:List Oper} {o:Oper} {a:Act} {Q:Exit→Act→World→Prop} (hgd:o.guard=none) (s y:Operand)
  (ho:o.op=.call { callee:=.builtin .copy,args:=#[s,y],argTypes:=#[28,28] })
  (hs:a.eval s=.slice (some ⟨N,0,none⟩) k c) (hy:a.eval y=.slice da m dc)
  (hk:∀ v' w',OwnW w' 0 (.slice (some ⟨N,0,none⟩) k c) (ovL e d)→w.grownBy w' (some N)→wpList Tryz.prog ops Q rest (a.put o.dst v') w'):wpList Tryz.prog ops Q (o::rest) a w:=by
 obtain ⟨v',w',hr,h1,h2⟩:=run_copy_words h hd hm o.type
 exact wpList_copy_runI w hgd s y _ _ ho _ _ hs hy hr (hk v' w' h1 h2)
theorem cut_no (h:StB w P g cap n all f mv lv) (hi:i<n) {need:Nat} (hnd:need≤(f i).b.s) (hlt:(f i).b.s<1000000000) (hno:(f i).b.s - need<48) :
  Calls Tryz.prog 92 #[.pointer (some ⟨P,0,none⟩),.int .i64 i,.int .u64 need] w fun e w'=>e=.returned (.tuple #[])∧w=w':=by
 have hi':(i:Int)<(n:Int):=by omega
 obtain ⟨e0,e1,e2⟩:=h.cells
 obtain ⟨c0,c1,c2,c3,c4,c5⟩:=h.row.cells hi
 obtain ⟨s,hs⟩:∃ s,(f i).b.s=s:=⟨_,rfl⟩
 rw [hs] at c1 hnd hlt hno
 have w1:IntKind.u64.wrap ((s:Int) - (need:Int))=((s - need:Nat):Int):=by rw [IntKind.wrap_u64];omega
 obtain ⟨r,hr⟩:∃ r,s - need=r:=⟨_,rfl⟩
 rw [hr] at w1 hno
 have h1:¬ (48:Int)≤(r:Int):=by omega
 clear h hr hs
 go_enter Tryz.func92,Tryz.ntmps92
 go_wp2
 go_end0
 exact ⟨rfl,rfl⟩
theorem cut_yes (h:StB w P g cap n all f mv lv) (hn:n≤900) (hPg:P≠g) (hi:i<n) {need:Nat} (hnd:need≤(f i).b.s) (hlt:(f i).b.off+(f i).b.s<1000000000) (hno:48≤(f i).b.s - need) :
  Calls Tryz.prog 92 #[.pointer (some ⟨P,0,none⟩),.int .i64 i,.int .u64 need] w fun e w'=>e=.returned (.tuple #[])∧Moved w w' P g all (n+1) (splF f i need) mv lv:=by
 have hsp:=split_any h hn hPg hi hnd hlt
 have hi':(i:Int)<(n:Int):=by omega
 obtain ⟨e0,e1,e2⟩:=h.cells
 obtain ⟨c0,c1,c2,c3,c4,c5⟩:=h.row.cells hi
 obtain ⟨s,hs⟩:∃ s,(f i).b.s=s:=⟨_,rfl⟩
 rw [hs] at c1 hnd hlt hno
 have w1:IntKind.u64.wrap ((s:Int) - (need:Int))=((s - need:Nat):Int):=by rw [IntKind.wrap_u64];omega
 obtain ⟨r,hr⟩:∃ r,s - need=r:=⟨_,rfl⟩
 rw [hr] at w1 hno
 have h1:(48:Int)≤(r:Int):=by omega
 clear h hr hs
 go_enter Tryz.func92,Tryz.ntmps92
 go_wp2_with (go_at_call 112;go_must ((with_reducible refine hsp.mono ?_);rintro e w1 ⟨rfl,hM⟩))
 go_end0
 exact ⟨rfl,hM⟩
theorem made_wordsK (m:Nat):(madeCells (#[.int .u64 0]:Array Value) m).toList=Ybi (List.replicate m 0):=by
 rw [toList_madeCells_one]
 simp [Ybi]
def KB.filled (x:KB) (n:Nat) (a:Option Addr):KB:=⟨⟨x.b.off,x.b.s,x.b.u,x.b.o,n⟩,a,(n+7) / 8,(n+7) / 8,(List.range ((n+7) / 8)).map fun i=>x.d.getD i 0⟩
def Filled (w w':World) (P g cap n all:Nat) (f:Nat→KB) (i m:Nat) (mv:Value) (lv:Nat→Bool):Prop:=∃ N,w.heap.size≤N∧StB w' P g cap n all (updK f i ((f i).filled m (some ⟨N,0,none⟩))) mv lv∧w.grownBy w' (some g)∧OwnW w' w.heap.size (.slice (some ⟨N,0,none⟩) ((m+7) / 8) ((m+7) / 8)) ((f i).filled m (some ⟨N,0,none⟩)).d
set_option maxHeartbeats 2000000 in
theorem fill_any (h:StB w P g cap n all f mv lv) (hPg:P≠g) (hi:i<n) {m:Nat} (hm:m≤1000000) (hd:Yb1 w (f i).a (f i).d) (hdl:(f i).d.length=(f i).m) :
  Calls Tryz.prog 91 #[.pointer (some ⟨P,0,none⟩),.int .i64 i,.int .u64 m] w fun e w'=>e=.returned (.tuple #[])∧Filled w w' P g cap n all f i m mv lv:=by
 have hi':(i:Int)<(n:Int):=by omega
 obtain ⟨e0,e1,e2⟩:=h.cells
 obtain ⟨x,hx⟩:∃ x,f i=x:=⟨_,rfl⟩
 have hwd:=fun V=>words_any m (by omega) V
 obtain ⟨k,hk⟩:∃ k,(m+7) / 8=k:=⟨_,rfl⟩
 have hmk:=make_words k (by omega)
 rw [hk] at hwd
 rw [hx] at hd hdl
 have HX:=Lib.hid hx
 have HH:=Lib.hid h
 have HK:=Lib.hid hk
 obtain ⟨⟨x0,x1,x2,x3,x4⟩,xa,xm,xc,xd⟩:=x
 simp only at hd hdl
 have hcell:∀ V,w.grownBy V none→V.cell? ⟨g,i*6+5,none⟩=some (.slice xa xm xc)∧V.cell? ⟨g,i*6+4,none⟩=some (.int .u64 (x4:Nat)):=fun V hV=>by
  obtain ⟨c0,c1,c2,c3,c4,c5⟩:=(HH.out.later hV).row.cells hi
  rw [HX.out] at c4 c5
  exact ⟨c5,c4⟩
 obtain ⟨W1,hW1⟩:∃ W1,w.alloc (.cells (madeCells #[.int .u64 0] k) 26)=W1:=⟨_,rfl⟩
 have hg1:w.grownBy W1 none:=by rw [← hW1];exact World.grownBy_alloc _ _ _
 have hrow:OwnW W1 0 (.slice (some ⟨w.heap.size,0,none⟩) k k) (List.replicate k 0):=by
  rw [← hW1]
  have:=World.ownsRow_lit (base:=0) (e:=26) (size:=1) w (madeCells #[.int .u64 0] k) k (Nat.zero_le _) (by unfold maxLen;omega) (by rw [size_madeCells,Nat.mul_one])
  unfold OwnW
  rw [List.length_replicate,← made_wordsK]
  exact this
 obtain ⟨c5,c4⟩:=hcell W1 hg1
 have HROW:=Lib.hid hrow
 have HG1:=Lib.hid hg1
 have HD:=Lib.hid (hd.later hg1)
 have HDL:=Lib.hid hdl
 clear hrow hg1 hd hdl hx hk h hm
 go_enter Tryz.func91,Tryz.ntmps91
 go_wp2_with (first
  | (go_at_call 116;go_must ((with_reducible refine (hwd _).mono ?_);rintro e w2 ⟨rfl,rfl⟩))
  | (refine wpList_copy_words HROW.out HD.out HDL.out rfl _ _ rfl rfl rfl ?_;intro v5 w5 ho5 hg5;have hg5n:=Yap (Yaa (Yam HG1.out _) hg5) (Nat.le_refl _);have hst5:=HH.out.later hg5n;have s4:=hst5.row.frz (i*6+4);have s5:=hst5.row.frz (i*6+5);obtain ⟨c5,c4⟩:=hcell w5 hg5n))
 go_end0
 have hr6:=hst5.row.set (v:=.int .u64 (m:Nat)) (x:=⟨⟨x0,x1,x2,x3,m⟩,xa,xm,xc,xd⟩) hi (show 4<6 by decide) (by rw [HX.out];rfl)
 have hr7:=hr6.set (v:=.slice (some ⟨w.heap.size,0,none⟩) k k) (k:=i) (x:=(f i).filled m (some ⟨w.heap.size,0,none⟩)) hi (show 5<6 by decide) (by rw [Yby,HX.out];unfold KB.filled KB.cel;rw [HK.out];rfl)
 rw [updK_upd] at hr7
 have hg7:=Yaa (Yac w5 g (i*6+4) (.int .u64 (m:Nat))) (Yac (w5.setCell ⟨g,i*6+4,none⟩ (.int .u64 (m:Nat))) g (i*6+5) (.slice (some ⟨w.heap.size,0,none⟩) k k))
 refine ⟨rfl,w.heap.size,Nat.le_refl _,hst5.turn hr7 hg7 hPg,Yaa (Yam hg5n _) hg7,?_⟩
 rw [HK.out]
 have hd7:((f i).filled m (some ⟨w.heap.size,0,none⟩)).d=ovL (List.replicate k 0) xd:=by rw [ovL_zero,HX.out];unfold KB.filled;rw [HK.out]
 rw [hd7]
 have hgl:=HH.out.row.lt
 refine World.ownsRow.kept ⟨ho5.1,?_⟩ hg7 (.inr (fun e=>by
  have e:w.heap.size=g:=by injection e
  omega))
 rcases ho5.2 with h|⟨g',cap',cur,h1,_,h3⟩
 ·exact .inl h
 ·refine .inr ⟨g',cap',cur,h1,?_,h3⟩
  injection h1 with e1
  injection e1 with e1
  injection e1 with e1
  exact Nat.le_of_eq e1
end
end
section
def fitAh (bs:List Blk) (a:Nat):Option Nat→Nat
 | none=>0
 | some i=>padN (gO bs i) a
def fitT (bs:List Blk) (a:Nat) (r:Option Nat):Value:=.tuple #[.int .i64 (r.getD 0:Nat),.int .u64 (fitAh bs a r:Nat),.bool r.isSome]
section
variable {w w':World} {P g cap n all i:Nat} {f:Nat→KB} {mv:Value} {lv:Nat→Bool}
set_option maxHeartbeats 4000000 in
theorem fit_any (h:StB w P g cap n all f mv lv) (hn:n≤1000) (hs:∀ j,j<n→(f j).b.off % 16=0∧(f j).b.off<1000000000∧(f j).b.s<1000000000) {need a:Nat} (ha:Ybr a) :
  Calls Tryz.prog 111 #[.pointer (some ⟨P,0,none⟩),.int .u64 need,.int .u64 a] w fun e w'=>e=.returned (fitT (bsF f n) a (Yc0 (fitB need a) (bsF f n) n))∧w.grownBy w' none:=by
 obtain ⟨e0,e1,e2⟩:=h.cells
 have HH:=Lib.hid h
 have HS:=Lib.hid hs
 obtain ⟨bs,hbs⟩:∃ bs,bsF f n=bs:=⟨_,rfl⟩
 have HBS:Hid (∀ j,j<n→bs.getD j default=(f j).b):=Lib.hid (fun j hj=>by rw [← hbs];exact bsF_at hj)
 rw [hbs]
 have HA:=Lib.hid ha
 clear h hs hbs ha
 go_enter Tryz.func111,Tryz.ntmps111
 go_wp2
 go_loopw [6,7,8,17] (fun vp va vo vk wr=>∃ (k:Nat) (r:Option Nat),k≤n∧vk=.int .i64 k∧vp=.int .i64 (r.getD 0:Nat)∧va=.int .u64 (fitAh bs a r:Nat)∧vo=.bool r.isSome∧Hid (Yc0 (fitB need a) bs k=r∧∀ i,r=some i→i<k)∧w.grownBy wr none) (fun _ _ _ vk _=>n - (intOf vk).toNat)
 case atStart=>exact ⟨0,none,Nat.zero_le _,rfl,rfl,rfl,rfl,Lib.hid ⟨rfl,fun i e=>by cases e⟩,Yag _ _⟩
 case round =>
  obtain ⟨k,r,hk,rfl,rfl,rfl,rfl,HR,hg⟩:=hrel
  by_cases h1:k<n
  ·have h1':(k:Int)<(n:Int):=by omega
   obtain ⟨c0,c1,c2,c3,c4,c5⟩:=(HH.out.later hg).row.cells h1
   have hxs:=HS.out k h1
   have hnx:=Ye2 (fitB need a) bs k
   rw [HR.out.1,fitB_at] at hnx
   unfold gU gO gS at hnx
   rw [HBS.out k h1] at hnx
   obtain ⟨x,hx⟩:∃ x,f k=x:=⟨_,rfl⟩
   rw [hx] at c0 c1 c2 c3 c4 c5 hxs hnx
   obtain ⟨⟨x0,x1,x2,x3,x4⟩,xa,xm,xc,xd⟩:=x
   simp only at c0 c1 c2 c3 c4 c5 hxs hnx
   have HNX:=Lib.hid hnx
   have hb:=Yab wr (.cells #[.int .u64 (x0:Nat),.int .u64 (x1:Nat),.bool x2,.int .i64 x3,.int .u64 (x4:Nat),.slice xa xm xc] 53)
   have ga:=World.grownBy_alloc wr (.cells #[.int .u64 (x0:Nat),.int .u64 (x1:Nat),.bool x2,.int .i64 x3,.int .u64 (x4:Nat),.slice xa xm xc] 53) none
   obtain ⟨W1,hW1⟩:∃ W1,wr.alloc (.cells #[.int .u64 (x0:Nat),.int .u64 (x1:Nat),.bool x2,.int .i64 x3,.int .u64 (x4:Nat),.slice xa xm xc] 53)=W1:=⟨_,rfl⟩
   rw [hW1] at hb ga
   have hG1:=Yaa hg ga
   obtain ⟨y0,y1,y2,y3,y4,y5⟩:=Ya5 hb
   obtain ⟨d0,d1,d2⟩:=(HH.out.later hG1).cells
   have HB1:=Lib.hid hb
   have HG1:=Lib.hid hG1
   have HX:=Lib.hid hxs
   obtain ⟨pd,hpd⟩:∃ pd,padN x0 a=pd:=⟨_,rfl⟩
   have hpad:=fun V=>pad_any HA.out hxs.1 hxs.2.1 V
   rw [hpd] at hpad
   have HPD:=Lib.hid hpd
   have HXF:Hid ((f k).b=⟨x0,x1,x2,x3,x4⟩):=Lib.hid (by rw [hx])
   have HFA:Hid (fitAh bs a (some k)=pd):=Lib.hid (by unfold fitAh gO;dsimp only;rw [HBS.out k h1,hx];exact hpd)
   clear hb ga hG1 hnx hxs hx hpd
   by_cases hu:x2=true
   ·subst hu
    have hsk:Yc0 (fitB need a) bs (k+1)=r:=by rw [HNX.out];cases r <;> simp
    have HSK:=Lib.hid hsk
    clear hsk hpad
    cases r with
    | none =>
     go_wp2
     go_quiet (fail)
     go_wp2
     go_roundw
     case rel=>exact ⟨k+1,_,by omega,by go_num,rfl,rfl,rfl,Lib.hid ⟨HSK.out,fun i e=>by have:=HR.out.2 i e;omega⟩,Yaa HG1.out (Ybl _ _)⟩
     case measure=>simp [intOf];omega
    | some i =>
     go_wp2
     go_quiet (fail)
     go_wp2
     go_roundw
     case rel=>exact ⟨k+1,_,by omega,by go_num,rfl,rfl,rfl,Lib.hid ⟨HSK.out,fun i e=>by have:=HR.out.2 i e;omega⟩,Yaa HG1.out (Ybl _ _)⟩
     case measure=>simp [intOf];omega
   ·obtain rfl:x2=false:=by cases x2 with|true=>exact absurd rfl hu|false=>rfl
    by_cases hs1:x1<need
    ·have hsk:Yc0 (fitB need a) bs (k+1)=r:=by rw [HNX.out];cases r <;> simp <;> omega
     have HSK:=Lib.hid hsk
     have hs1':(x1:Int)<(need:Int):=by omega
     clear hsk hpad hu
     cases r with
     | none =>
      go_wp2
      go_quiet (fail)
      go_wp2
      go_roundw
      case rel=>exact ⟨k+1,_,by omega,by go_num,rfl,rfl,rfl,Lib.hid ⟨HSK.out,fun i e=>by have:=HR.out.2 i e;omega⟩,Yaa HG1.out (Ybl _ _)⟩
      case measure=>simp [intOf];omega
     | some i =>
      go_wp2
      go_quiet (fail)
      go_wp2
      go_roundw
      case rel=>exact ⟨k+1,_,by omega,by go_num,rfl,rfl,rfl,Lib.hid ⟨HSK.out,fun i e=>by have:=HR.out.2 i e;omega⟩,Yaa HG1.out (Ybl _ _)⟩
      case measure=>simp [intOf];omega
    ·have hs1':¬ (x1:Int)<(need:Int):=by omega
     obtain ⟨q,hq⟩:∃ q,x1 - need=q:=⟨_,rfl⟩
     have wq:IntKind.u64.wrap ((x1:Int) - (need:Int))=(q:Nat):=by have:=HX.out;rw [IntKind.wrap_u64];omega
     have HQ:=Lib.hid hq
     cases r with
     | none =>
      by_cases hp:pd≤q
      ·have hp':(pd:Int)≤(q:Int):=by omega
       have hsk:Yc0 (fitB need a) bs (k+1)=some k:=by
        rw [HNX.out];dsimp only
        rw [HPD.out,HQ.out,if_pos (by simp [hp];omega)]
       have HSK:=Lib.hid hsk
       clear hsk hu hq hp
       go_wp2
       go_quiet (fail)
       obtain ⟨w5,hw5⟩:∃ w5,w5=W1.drewN nq:=⟨_,rfl⟩
       have hg5:W1.grownBy w5 none:=by rw [hw5];exact Ybl _ _
       rw [← hw5]
       clear hw5
       obtain ⟨y0,y1,y2,y3,y4,y5⟩:=Ya5 ((hg5.block _ (lt_of_block HB1.out) (by simp)).trans HB1.out)
       go_wp2_with (go_at_call 136;go_must ((with_reducible refine (hpad _).mono ?_);rintro e w6 ⟨rfl,rfl⟩))
       go_roundw
       case rel=>exact ⟨k+1,some k,by omega,by go_num,rfl,by rw [HFA.out],rfl,Lib.hid ⟨HSK.out,fun i e=>by injection e with e;omega⟩,Yaa HG1.out hg5⟩
       case measure=>simp [intOf];omega
      ·have hp':¬ (pd:Int)≤(q:Int):=by omega
       have hsk:Yc0 (fitB need a) bs (k+1)=none:=by
        rw [HNX.out];dsimp only
        rw [HPD.out,HQ.out,if_neg (by simp [hp])]
       have HSK:=Lib.hid hsk
       clear hsk hu hq hp
       go_wp2
       go_quiet (fail)
       obtain ⟨w5,hw5⟩:∃ w5,w5=W1.drewN nq:=⟨_,rfl⟩
       have hg5:W1.grownBy w5 none:=by rw [hw5];exact Ybl _ _
       rw [← hw5]
       clear hw5
       obtain ⟨y0,y1,y2,y3,y4,y5⟩:=Ya5 ((hg5.block _ (lt_of_block HB1.out) (by simp)).trans HB1.out)
       go_wp2_with (go_at_call 136;go_must ((with_reducible refine (hpad _).mono ?_);rintro e w6 ⟨rfl,rfl⟩))
       go_roundw
       case rel=>exact ⟨k+1,_,by omega,by go_num,rfl,rfl,rfl,Lib.hid ⟨HSK.out,fun i e=>by have:=HR.out.2 i e;omega⟩,Yaa HG1.out hg5⟩
       case measure=>simp [intOf];omega
     | some i =>
      have hik:=HR.out.2 i rfl
      obtain ⟨m0,m1,m2,m3,m4,m5⟩:=(HH.out.later HG1.out).row.cells (k:=i) (by omega)
      obtain ⟨z,hz⟩:∃ z,(f i).b.s=z:=⟨_,rfl⟩
      rw [hz] at m1
      have hbi:(bs.getD i default).s=z:=by rw [HBS.out i (by omega)];exact hz
      have hin:(i:Int)<(n:Int):=by omega
      have HBI:=Lib.hid hbi
      clear hz hbi m0 m2 m3 m4 m5
      by_cases hzz:z≤x1
      ·have hzz':(z:Int)≤(x1:Int):=by omega
       have hsk:Yc0 (fitB need a) bs (k+1)=some i:=by
        rw [HNX.out];dsimp only
        rw [HBI.out,if_neg (fun h=>by have:=h.2;omega)]
       have HSK:=Lib.hid hsk
       clear hsk hu hq hpad hzz
       go_wp2
       go_quiet (fail)
       go_wp2
       go_roundw
       case rel=>exact ⟨k+1,_,by omega,by go_num,rfl,rfl,rfl,Lib.hid ⟨HSK.out,fun i e=>by have:=HR.out.2 i e;omega⟩,Yaa HG1.out (Ybl _ _)⟩
       case measure=>simp [intOf];omega
      ·have hzz':¬ (z:Int)≤(x1:Int):=by omega
       by_cases hp:pd≤q
       ·have hp':(pd:Int)≤(q:Int):=by omega
        have hsk:Yc0 (fitB need a) bs (k+1)=some k:=by
         rw [HNX.out];dsimp only
         rw [HPD.out,HQ.out,HBI.out,if_pos ⟨by simp [hp];omega,by omega⟩]
        have HSK:=Lib.hid hsk
        clear hsk hu hq hp hzz
        go_wp2
        go_quiet (fail)
        obtain ⟨w5,hw5⟩:∃ w5,w5=W1.drewN nq:=⟨_,rfl⟩
        have hg5:W1.grownBy w5 none:=by rw [hw5];exact Ybl _ _
        rw [← hw5]
        clear hw5
        obtain ⟨y0,y1,y2,y3,y4,y5⟩:=Ya5 ((hg5.block _ (lt_of_block HB1.out) (by simp)).trans HB1.out)
        go_wp2_with (go_at_call 136;go_must ((with_reducible refine (hpad _).mono ?_);rintro e w6 ⟨rfl,rfl⟩))
        go_roundw
        case rel=>exact ⟨k+1,some k,by omega,by go_num,rfl,by rw [HFA.out],rfl,Lib.hid ⟨HSK.out,fun i e=>by injection e with e;omega⟩,Yaa HG1.out hg5⟩
        case measure=>simp [intOf];omega
       ·have hp':¬ (pd:Int)≤(q:Int):=by omega
        have hsk:Yc0 (fitB need a) bs (k+1)=some i:=by
         rw [HNX.out];dsimp only
         rw [HPD.out,HQ.out,if_neg (fun h=>by simp [hp] at h)]
        have HSK:=Lib.hid hsk
        clear hsk hu hq hp hzz
        go_wp2
        go_quiet (fail)
        obtain ⟨w5,hw5⟩:∃ w5,w5=W1.drewN nq:=⟨_,rfl⟩
        have hg5:W1.grownBy w5 none:=by rw [hw5];exact Ybl _ _
        rw [← hw5]
        clear hw5
        obtain ⟨y0,y1,y2,y3,y4,y5⟩:=Ya5 ((hg5.block _ (lt_of_block HB1.out) (by simp)).trans HB1.out)
        go_wp2_with (go_at_call 136;go_must ((with_reducible refine (hpad _).mono ?_);rintro e w6 ⟨rfl,rfl⟩))
        go_roundw
        case rel=>exact ⟨k+1,_,by omega,by go_num,rfl,rfl,rfl,Lib.hid ⟨HSK.out,fun i e=>by have:=HR.out.2 i e;omega⟩,Yaa HG1.out hg5⟩
        case measure=>simp [intOf];omega
  ·obtain rfl:k=n:=by omega
   have h1':¬ (k:Int)<(k:Int):=by omega
   go_wp2
   go_ret3
   exact ⟨by rw [HR.out.1];rfl,hg⟩
end
end
section
def Ycb (f:Nat→KB) (n:Nat):List KB:=(List.range n).map f
theorem klist_len (f:Nat→KB) (n:Nat):(Ycb f n).length=n:=by simp [Ycb]
theorem klist_at {f:Nat→KB} {n j:Nat} (hj:j<n):(Ycb f n).getD j default=f j:=by
 unfold Ycb
 rw [List.getD_eq_getElem?_getD,List.getElem?_map,List.getElem?_range hj]
 rfl
theorem Ydg {f:Nat→KB} {n:Nat} (j:Nat):(Ycb f n)[j]?=if j<n then some (f j) else none:=by
 unfold Ycb
 rw [List.getElem?_map]
 split
 ·rename_i h;rw [List.getElem?_range h];rfl
 ·rename_i h;rw [List.getElem?_eq_none (by simp;omega)];rfl
theorem klist_b (f:Nat→KB) (n:Nat):(Ycb f n).map KB.b=bsF f n:=by simp [Ycb,bsF]
theorem klist_of {f:Nat→KB} {n:Nat} {l:List KB} (hn:l.length=n) (h:∀ j,j<n→f j=l.getD j default):Ycb f n=l:=by
 apply List.ext_getElem?
 intro j
 rw [Ydg]
 split
 ·rename_i hj
  rw [h j hj,List.getD_eq_getElem?_getD,List.getElem?_eq_getElem (by omega)];rfl
 ·rw [List.getElem?_eq_none (by omega)]
theorem klist_upd {f:Nat→KB} {n i:Nat} (hi:i<n) (x:KB):Ycb (updK f i x) n=(Ycb f n).take i++x::(Ycb f n).drop (i+1):=by
 apply List.ext_getElem?
 intro j
 have hl:=klist_len f n
 have ht:((Ycb f n).take i).length=i:=by rw [List.length_take,hl];omega
 rw [Ydg]
 rcases Nat.lt_trichotomy j i with h|h|h
 ·rw [if_pos (by omega),Ydu (by omega),List.getElem?_append_left (by omega),List.getElem?_take_of_lt h,Ydg,if_pos (by omega)]
 ·subst h
  rw [if_pos hi,Yby,List.getElem?_append_right (by omega),ht,Nat.sub_self];rfl
 ·rw [List.getElem?_append_right (by omega),ht,show j - i=(j - i - 1)+1 by omega,List.getElem?_cons_succ,List.getElem?_drop,Ydg,show i+1+(j - i - 1)=j by omega,Ydu (by omega)]
theorem klist_ins {f:Nat→KB} {n p:Nat} (hp:p≤n) (x:KB):Ycb (insF f p x) (n+1)=(Ycb f n).take p++x::(Ycb f n).drop p:=by
 apply List.ext_getElem?
 intro j
 have hl:=klist_len f n
 have ht:((Ycb f n).take p).length=p:=by rw [List.length_take,hl];omega
 rw [Ydg]
 unfold insF
 rcases Nat.lt_trichotomy j p with h|h|h
 ·rw [if_pos (by omega),if_pos h,List.getElem?_append_left (by omega),List.getElem?_take_of_lt h,Ydg,if_pos (by omega)]
 ·subst h
  rw [if_pos (by omega),if_neg (by omega),if_pos rfl,List.getElem?_append_right (by omega),ht,Nat.sub_self];rfl
 ·rw [List.getElem?_append_right (by omega),ht,show j - p=(j - p - 1)+1 by omega,List.getElem?_cons_succ,List.getElem?_drop,Ydg,show p+(j - p - 1)=j - 1 by omega]
  by_cases hj:j<n+1
  ·rw [if_pos hj,if_neg (show ¬ j<p by omega),if_neg (show ¬ j=p by omega),if_pos (show j - 1<n by omega)]
  ·rw [if_neg hj,if_neg (show ¬ j - 1<n by omega)]
theorem klist_spl {f:Nat→KB} {n i size:Nat} {A C:List KB} {x:KB} (h:Ycb f n=A++x::C) (hi:A.length=i):Ycb (splF f i size) (n+1)=A++x.sized size::Ya9 (x.b.off+size) (x.b.s - size)::C:=by
 have hn:A.length+(C.length+1)=n:=by have:=klist_len f n;rw [h] at this;simpa using this
 have hfx:f i=x:=by
  have:=klist_at (f:=f) (n:=n) (j:=i) (by omega)
  rw [h,← hi,List.getD_eq_getElem?_getD,List.getElem?_append_right (Nat.le_refl _),Nat.sub_self] at this
  rw [← hi];exact this.symm
 unfold splF
 rw [klist_ins (by omega),klist_upd (by omega),h,hfx]
 have e1:(A++x::C).take i=A:=by rw [← hi];simp
 have e2:(A++x::C).drop (i+1)=C:=by rw [← hi,List.drop_append];simp
 rw [e1,e2]
 have e3:(A++x.sized size::C).take (i+1)=A++[x.sized size]:=by rw [← hi,show A++x.sized size::C=(A++[x.sized size])++C by simp,List.take_left' (by simp)]
 have e4:(A++x.sized size::C).drop (i+1)=C:=by rw [← hi,show A++x.sized size::C=(A++[x.sized size])++C by simp,List.drop_left' (by simp)]
 rw [e3,e4]
 simp
theorem Ybn {f:Nat→KB} {n i:Nat} {A C:List KB} {x:KB} (h:Ycb f n=A++x::C) (hi:A.length=i) (y:KB):f i=x∧i<n∧Ycb (updK f i y) n=A++y::C:=by
 have hn:A.length+(C.length+1)=n:=by have:=klist_len f n;rw [h] at this;simpa using this
 have hfx:f i=x:=by
  have:=klist_at (f:=f) (n:=n) (j:=i) (by omega)
  rw [h,← hi,List.getD_eq_getElem?_getD,List.getElem?_append_right (Nat.le_refl _),Nat.sub_self] at this
  rw [← hi];exact this.symm
 refine ⟨hfx,by omega,?_⟩
 rw [klist_upd (by omega),h]
 have e1:(A++x::C).take i=A:=by rw [← hi];simp
 have e2:(A++x::C).drop (i+1)=C:=by rw [← hi,List.drop_append];simp
 rw [e1,e2]
def jnL (l:List KB):List KB:=l.foldl jSK []
theorem jnK_L (f:Nat→KB):∀ n,jnK f n=jnL (Ycb f n)
 | 0=>rfl
 | n+1=>by
  show jSK (jnK f n) (f n)=_
  rw [jnK_L f n]
  unfold jnL Ycb
  rw [List.range_succ,List.map_append,List.foldl_append]
  rfl
theorem jnL_map (l:List KB):(jnL l).map KB.b=Ybs (l.map KB.b):=by
 have key:∀ (l:List KB) (o:List KB),(l.foldl jSK o).map KB.b=(l.map KB.b).foldl Ycf (o.map KB.b):=by
  intro l
  induction l with
  | nil=>intro o;rfl
  | cons x r ih=>intro o;rw [List.foldl_cons,ih,jSK_map];rfl
 exact key l []
def Ybk (E:Nat):Nat→List Blk→Prop
 | o,[]=>o=E
 | o,b::r=>b.off=o∧0<b.s∧b.s % 16=0∧Ybk E (o+b.s) r
theorem Ybk.le {E:Nat}:∀ {o:Nat} {bs:List Blk},Ybk E o bs→o+16*bs.length≤E
 | o,[],h=>by unfold Ybk at h;simp;omega
 | o,b::r,h=>by
  obtain ⟨h1,h2,h3,h4⟩:=h
  have:=h4.le
  simp only [List.length_cons]
  omega
theorem Ybk.mem {E:Nat}:∀ {o:Nat} {bs:List Blk},Ybk E o bs→o % 16=0→∀ b∈bs,b.off % 16=0∧o≤b.off∧b.off+b.s≤E∧0<b.s∧b.s % 16=0
 | o,[],h,ho=>fun b hb=>by cases hb
 | o,b::r,h,ho=>fun c hc=>by
  obtain ⟨h1,h2,h3,h4⟩:=h
  rcases List.mem_cons.1 hc with rfl|hc
  ·have:=h4.le
   refine ⟨by omega,by omega,by omega,h2,h3⟩
  ·have:=h4.mem (by omega) c hc
   omega
theorem Ybk.app {E:Nat}:∀ {o:Nat} {A C:List Blk},Ybk E o (A++C)↔∃ m,Ybk m o A∧Ybk E m C
 | o,[],C=>⟨fun h=>⟨o,rfl,h⟩,fun ⟨m,h1,h2⟩=>by unfold Ybk at h1;subst h1;exact h2⟩
 | o,b::r,C=>by
  constructor
  ·rintro ⟨h1,h2,h3,h4⟩
   obtain ⟨m,h5,h6⟩:=Ybk.app.1 h4
   exact ⟨m,⟨h1,h2,h3,h5⟩,h6⟩
  ·rintro ⟨m,⟨h1,h2,h3,h5⟩,h6⟩
   exact ⟨h1,h2,h3,Ybk.app.2 ⟨m,h5,h6⟩⟩
theorem Ybk.up {E:Nat}:∀ {o:Nat} {bs:List Blk},Ybk E o bs→bs.Pairwise fun x y=>x.off<y.off
 | o,[],h=>List.Pairwise.nil
 | o,b::r,h=>by
  obtain ⟨h1,h2,h3,h4⟩:=h
  refine List.Pairwise.cons (fun c hc=>?_) h4.up
  obtain ⟨A,C,rfl⟩:=List.append_of_mem hc
  obtain ⟨m,h5,h6⟩:=Ybk.app.1 h4
  have:=h5.le
  have:=h6.1
  omega
end
end Go.Proofs.YtfhiljglfhekdaaGreat
