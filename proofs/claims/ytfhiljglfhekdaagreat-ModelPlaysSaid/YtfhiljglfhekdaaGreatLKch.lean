/-
  Texts of one layer, one behind the other: memory, contracts of the functions, and what follows of them.
  Conditions: as each theorem says.
-/
import Derived.Test.YtfhiljglfhekdaaGreatLKcg
set_option linter.unusedVariables false
set_option linter.unusedSimpArgs false
set_option maxRecDepth 100000
namespace Go.Proofs.YtfhiljglfhekdaaGreat
open Go.RowKit
section
section
variable {w w' w1 w2:World} {F:Nat→Prop} {P g cap n all E c i M p b:Nat} {f:Nat→KB} {mv:Value} {ns:List (ByteArray × Nat)} {lv:Nat→Bool} {l A C:List KB} {y:KB} {x:OpM}
theorem step_append_kb {z:KB} (h:RowF w2 g cap n f) (hn:n≤1000) (hc:∀ j u,z.cel[j]?=some u→w2.cell? ((⟨b,0,none⟩:Addr).add j)=some u)
  {ops:Array Oper} {o:Oper} {a:Act} {K:Act→World→Prop} {Q:Exit→Act→World→Prop} {E:Prop} (hgd:o.guard=none) (s y:Operand)
  (ho:o.op=.call { callee:=.builtin .append,args:=#[s,y],argTypes:=#[50,50] })
  (hs:a.eval s=.slice (some ⟨g,0,none⟩) n cap) (hy:a.eval y=.slice (some ⟨b,0,none⟩) 1 1)
  (hK:∀ g' cap' w',RowF w' g' cap' (n+1) (insF f n z)→w2.grownBy w' (some g)→(g'=g∨w2.heap.size≤g')→K (a.put o.dst (.slice (some ⟨g',0,none⟩) (n+1) cap')) w') :
  if Region.wanted o (yielded ops a.tmps)=true then Oper.wp Tryz.prog o a w2 K Q else E:=by
 obtain ⟨i0,hi,hz0,hz1,hz2⟩:=info_parts info_kb
 have hwt:Region.wanted o (yielded ops a.tmps)=true:=by simp [Region.wanted,hgd]
 rw [if_pos hwt]
 obtain ⟨v',w',hr,h2,h3,_,h5⟩:=run_append_own_at (P:=Tryz.prog) w2 0 50 o.type 53 i0 (.agg #[.int .u64 0,.int .u64 0,.bool false,.int .i64 0,.int .u64 0,.slice none 0 0]) 6 64 Tryz.underlying50 hi hz0 hz1 hz2 rfl (by decide) _ n (Yde f n) h.owns ⟨b,0,none⟩ 1 1 z.cel (by rw [KB.cel_len]) hc z.cel_one (by unfold maxLen;omega) (by omega) (Nat.zero_le _)
 rw [← insF_end] at h2
 obtain ⟨g',cap',rfl,hrow⟩:=RowF.of_owns h2 (by omega)
 unfold Oper.wp execOp
 simp only [ho,resolve,invoke,builtin,Sem.run_bind,Sem.run_pure,Result.andThen_ok,List.map_toArray,List.map_cons,List.map_nil,hs,hy,hr]
 refine hK g' cap' w' hrow h3 ?_
 rcases h5 with h|h
 ·exact .inl (by injection h)
 ·exact .inr (by injection h with h;exact Nat.le_of_eq h.symm)
theorem Md.appended {z:KB} (h:Md w F P all l ns lv) (hst:StB w P g cap l.length all f (.map (some M)) lv) (hk:Ycb f l.length=l) (hPg:P≠g) (hFg:F g) (hFM:F M) (hmp:MapN w M ns) (hz:z.bare) {g' cap':Nat}
  (hr:RowF w1 g' cap' (l.length+1) (insF f l.length z)) (hg:w.grownBy w1 (some g)) (hl:g'=g∨w.heap.size≤g'):MdR w (w1.setCell ⟨P,1,none⟩ (.slice (some ⟨g',0,none⟩) (l.length+1) cap')) F P all (l++[z]) ns lv∧w1.cell? ⟨P,1,none⟩=some (.slice (some ⟨g,0,none⟩) l.length cap)∧w1.frozen? ⟨P,1,none⟩=false:=by
 have hbx8:=(hg.block _ (lt_of_block hst.box) (fun e=>hPg (by injection e))).trans hst.box
 have hle:(l++[z]).length=l.length+1:=by simp
 have hk':Ycb (insF f l.length z) (l.length+1)=l++[z]:=by
  rw [klist_ins (Nat.le_refl _),hk,List.take_length,List.drop_length]
 have hd:dats (l++[z])=dats l:=by rw [Ycl,Yee hz.1,List.append_nil]
 rw [← hle] at hk' hr
 refine ⟨h.turn hst hFg hFM hmp (g':=g') (cap':=cap') (f':=insF f l.length z) ⟨?_,?_⟩ hk' ?_ hPg hl (by rw [hd];exact h.nod) (fun q hq=>by rw [hd] at hq;exact hq) (fun y hy=>?_) (fun y hy hu=>?_),?_,?_⟩
 ·rw [Yar hbx8,hle];rfl
 ·exact hr.other hbx8 (by decide) (Yac _ _ _ _)
 ·exact Ybx (Ybm hg (p:=fun i=>i=P∨i=g) (fun i h=>.inr (by injection h with h;exact h.symm))) (Ybm (Yac _ _ _ _) (p:=fun i=>i=P∨i=g) (fun i h=>.inl (by injection h with h;exact h.symm))) (fun i h=>.inl h)
 ·rcases List.mem_append.1 hy with h1|h1
  ·exact .inr ⟨y,h1,rfl,rfl⟩
  ·rw [List.mem_singleton.1 h1];exact .inl hz
 ·rcases List.mem_append.1 hy with h1|h1
  ·exact h.free y h1 hu
  ·rw [List.mem_singleton.1 h1];exact hz
 ·simp [World.cell?,hbx8,stC]
 ·simp [World.frozen?,hbx8]
set_option maxHeartbeats 2000000 in
theorem mgrow_arg (h:Md w F P all l ns lv) (hxn:x.n<18446744073709551616) (hno:x.n % 16≠0∨x.n<48) :
  Calls Tryz.prog 67 #[.pointer (some ⟨P,0,none⟩),.int .i64 c,.agg (opC x)] w fun e w'=>e=.returned (.agg #[.int .i64 1,.int .u64 0,.int .u64 0])∧w.grownBy w' none:=by
 obtain ⟨hop,hres,hg0⟩:=Ybq (w:=w) x
 obtain ⟨W0,hW0⟩:∃ W0,((w.alloc (.cells (opC x) 41)).alloc (.cells #[.int .i64 0,.int .u64 0,.int .u64 0] 46))=W0:=⟨_,rfl⟩
 rw [hW0] at hop hres hg0
 have hM0:=h.later hg0
 have HNF:Hid (¬ F (w.heap.size+1)):=Lib.hid (fun hF=>by have:=h.lt _ hF;omega)
 have HNO:Hid (¬ F w.heap.size):=Lib.hid (fun hF=>by have:=h.lt _ hF;omega)
 have HLT:Hid (∀ g,F g→g<W0.heap.size):=Lib.hid (fun g hg=>Nat.lt_of_lt_of_le (h.lt g hg) hg0.size)
 have HLW:=Lib.hid h.lt
 have HRX:=Lib.hid hres
 have HOX:=Lib.hid hop
 have HG0:=Lib.hid hg0
 obtain ⟨o0,o1,o2,o3,o4,o5,o6,o7⟩:=Yal hop
 unfold opC at hW0 ⊢
 have hfl:=fun V=>Ya6 1 V
 have hm:Int.tmod (x.n:Int) 16=((x.n % 16:Nat):Int):=by rw [Int.tmod_eq_emod_of_nonneg (by omega)];omega
 clear hop hres hg0 hM0 h
 by_cases h1:x.n % 16=0
 ·have h2:(x.n:Int)<48:=by omega
  rw [h1] at hm
  go_enter Tryz.func67,Tryz.ntmps67
  go_wp2_with (go_at_call 33;go_must ((with_reducible refine (hfl _).mono ?_);rintro e w4 ⟨rfl,hg4⟩;have hGG:=hg4;have hbx3:=(hGG.block _ (lt_of_block HRX.out) (by simp)).trans HRX.out;obtain ⟨y0,y1,y2⟩:=Yaf hbx3;obtain ⟨z0,z1,z2⟩:=Yak hbx3))
  have q:=Yaz hbx3 (x':=.int .i64 1) (y':=.int .u64 0) (z':=.int .u64 0)
  obtain ⟨k0,k1,k2⟩:=Yaf q
  refine bodyPost_ret (v:=.agg #[.int .i64 1,.int .u64 0,.int .u64 0]) (by simp [results,Tryz.results67,go_sem,k0,k1,k2]) rfl ?_
  exact ⟨rfl,Yap (Yaa (Yam (Yaa HG0.out hGG) (some (w.heap.size+1))) (Yaa (Yac _ _ _ _) (Yaa (Yac _ _ _ _) (Yac _ _ _ _)))) (by omega)⟩
 ·have h2:¬ (((x.n % 16:Nat):Int)=0):=by omega
  go_enter Tryz.func67,Tryz.ntmps67
  go_wp2_with (go_at_call 33;go_must ((with_reducible refine (hfl _).mono ?_);rintro e w4 ⟨rfl,hg4⟩;have hGG:=hg4;have hbx3:=(hGG.block _ (lt_of_block HRX.out) (by simp)).trans HRX.out;obtain ⟨y0,y1,y2⟩:=Yaf hbx3;obtain ⟨z0,z1,z2⟩:=Yak hbx3))
  have q:=Yaz hbx3 (x':=.int .i64 1) (y':=.int .u64 0) (z':=.int .u64 0)
  obtain ⟨k0,k1,k2⟩:=Yaf q
  refine bodyPost_ret (v:=.agg #[.int .i64 1,.int .u64 0,.int .u64 0]) (by simp [results,Tryz.results67,go_sem,k0,k1,k2]) rfl ?_
  exact ⟨rfl,Yap (Yaa (Yam (Yaa HG0.out hGG) (some (w.heap.size+1))) (Yaa (Yac _ _ _ _) (Yaa (Yac _ _ _ _) (Yac _ _ _ _)))) (by omega)⟩
set_option maxHeartbeats 2000000 in
theorem mgrow_mem (h:Md w F P all l ns lv) (hL:Lay E l) (hxn:x.n<18446744073709551616) (h16:x.n % 16=0) (h48:48≤x.n) (hno:all<E+x.n) :
  Calls Tryz.prog 67 #[.pointer (some ⟨P,0,none⟩),.int .i64 c,.agg (opC x)] w fun e w'=>e=.returned (.agg #[.int .i64 3,.int .u64 0,.int .u64 0])∧w.grownBy w' none:=by
 obtain ⟨hop,hres,hg0⟩:=Ybq (w:=w) x
 obtain ⟨W0,hW0⟩:∃ W0,((w.alloc (.cells (opC x) 41)).alloc (.cells #[.int .i64 0,.int .u64 0,.int .u64 0] 46))=W0:=⟨_,rfl⟩
 rw [hW0] at hop hres hg0
 have hM0:=h.later hg0
 have HNF:Hid (¬ F (w.heap.size+1)):=Lib.hid (fun hF=>by have:=h.lt _ hF;omega)
 have HNO:Hid (¬ F w.heap.size):=Lib.hid (fun hF=>by have:=h.lt _ hF;omega)
 have HLT:Hid (∀ g,F g→g<W0.heap.size):=Lib.hid (fun g hg=>Nat.lt_of_lt_of_le (h.lt g hg) hg0.size)
 have HLW:=Lib.hid h.lt
 have HRX:=Lib.hid hres
 have HOX:=Lib.hid hop
 have HG0:=Lib.hid hg0
 obtain ⟨o0,o1,o2,o3,o4,o5,o6,o7⟩:=Yal hop
 unfold opC at hW0 ⊢
 have hfl:=fun V=>Ya6 3 V
 have hm:Int.tmod (x.n:Int) 16=0:=by rw [Int.tmod_eq_emod_of_nonneg (by omega)];omega
 have h2:¬ ((x.n:Int)<48):=by omega
 have hsz:=size_md hM0 hL
 have HM0:=Lib.hid hM0
 have htop:=hL.top
 by_cases h64:E+x.n<18446744073709551616
 ·have hadd:=fun V=>add_low E x.n h64 V
  have h3:((E+x.n:Nat):Int) > (all:Int):=by omega
  obtain ⟨t,ht⟩:∃ t,E+x.n=t:=⟨_,rfl⟩
  rw [ht] at hadd h3
  clear hop hres hg0 hM0 h h64 hno ht htop h16 h48
  go_enter Tryz.func67,Tryz.ntmps67
  go_wp2_with (first
   | (go_at_call 22;go_must ((with_reducible refine hsz.mono ?_);rintro e w3 ⟨rfl,hg3⟩;have hop3:=(hg3.block _ (lt_of_block HOX.out) (by simp)).trans HOX.out;obtain ⟨_,q1,_,_,_,_,_,_⟩:=Yal hop3;obtain ⟨g,cap,f,M,hst,hk,hPg,hFg,hFM,hmp⟩:=(HM0.out.later hg3).ex;obtain ⟨d0,d1,d2⟩:=hst.cells))
   | (go_at_call 97;go_must ((with_reducible refine (hadd _).mono ?_);rintro e w5 ⟨rfl,rfl⟩))
   | (go_at_call 33;go_must ((with_reducible refine (hfl _).mono ?_);rintro e w4 ⟨rfl,hg4⟩;have hGG:=Yaa hg3 hg4;have hbx3:=(hGG.block _ (lt_of_block HRX.out) (by simp)).trans HRX.out;obtain ⟨y0,y1,y2⟩:=Yaf hbx3;obtain ⟨z0,z1,z2⟩:=Yak hbx3)))
  have q:=Yaz hbx3 (x':=.int .i64 3) (y':=.int .u64 0) (z':=.int .u64 0)
  obtain ⟨k0,k1,k2⟩:=Yaf q
  refine bodyPost_ret (v:=.agg #[.int .i64 3,.int .u64 0,.int .u64 0]) (by simp [results,Tryz.results67,go_sem,k0,k1,k2]) rfl ?_
  exact ⟨rfl,Yap (Yaa (Yam (Yaa HG0.out hGG) (some (w.heap.size+1))) (Yaa (Yac _ _ _ _) (Yaa (Yac _ _ _ _) (Yac _ _ _ _)))) (by omega)⟩
 ·have hadd:=fun V=>add_high E x.n (by omega) hxn (by omega) V
  clear hop hres hg0 hM0 h h64 hno htop h16 h48
  go_enter Tryz.func67,Tryz.ntmps67
  go_wp2_with (first
   | (go_at_call 22;go_must ((with_reducible refine hsz.mono ?_);rintro e w3 ⟨rfl,hg3⟩;have hop3:=(hg3.block _ (lt_of_block HOX.out) (by simp)).trans HOX.out;obtain ⟨_,q1,_,_,_,_,_,_⟩:=Yal hop3;obtain ⟨g,cap,f,M,hst,hk,hPg,hFg,hFM,hmp⟩:=(HM0.out.later hg3).ex;obtain ⟨d0,d1,d2⟩:=hst.cells))
   | (go_at_call 97;go_must ((with_reducible refine (hadd _).mono ?_);rintro e w5 ⟨rfl,rfl⟩))
   | (go_at_call 33;go_must ((with_reducible refine (hfl _).mono ?_);rintro e w4 ⟨rfl,hg4⟩;have hGG:=Yaa hg3 hg4;have hbx3:=(hGG.block _ (lt_of_block HRX.out) (by simp)).trans HRX.out;obtain ⟨y0,y1,y2⟩:=Yaf hbx3;obtain ⟨z0,z1,z2⟩:=Yak hbx3)))
  have q:=Yaz hbx3 (x':=.int .i64 3) (y':=.int .u64 0) (z':=.int .u64 0)
  obtain ⟨k0,k1,k2⟩:=Yaf q
  refine bodyPost_ret (v:=.agg #[.int .i64 3,.int .u64 0,.int .u64 0]) (by simp [results,Tryz.results67,go_sem,k0,k1,k2]) rfl ?_
  exact ⟨rfl,Yap (Yaa (Yam (Yaa HG0.out hGG) (some (w.heap.size+1))) (Yaa (Yac _ _ _ _) (Yaa (Yac _ _ _ _) (Yac _ _ _ _)))) (by omega)⟩
set_option maxHeartbeats 4000000 in
theorem mgrow_ok (h:Md w F P all l ns lv) (hL:Lay E l) (hall:all≤1000000) (h16:x.n % 16=0) (h48:48≤x.n) (hle:E+x.n≤all) :
  Calls Tryz.prog 67 #[.pointer (some ⟨P,0,none⟩),.int .i64 c,.agg (opC x)] w fun e w'=>e=.returned (.agg #[.int .i64 0,.int .u64 0,.int .u64 0])∧MdR w w' F P all (jnL (l++[Ya9 E x.n])) ns lv:=by
 obtain ⟨hop,hres,hg0⟩:=Ybq (w:=w) x
 obtain ⟨W0,hW0⟩:∃ W0,((w.alloc (.cells (opC x) 41)).alloc (.cells #[.int .i64 0,.int .u64 0,.int .u64 0] 46))=W0:=⟨_,rfl⟩
 rw [hW0] at hop hres hg0
 have hM0:=h.later hg0
 have HNF:Hid (¬ F (w.heap.size+1)):=Lib.hid (fun hF=>by have:=h.lt _ hF;omega)
 have HNO:Hid (¬ F w.heap.size):=Lib.hid (fun hF=>by have:=h.lt _ hF;omega)
 have HLT:Hid (∀ g,F g→g<W0.heap.size):=Lib.hid (fun g hg=>Nat.lt_of_lt_of_le (h.lt g hg) hg0.size)
 have HLW:=Lib.hid h.lt
 have HRX:=Lib.hid hres
 have HOX:=Lib.hid hop
 have HG0:=Lib.hid hg0
 obtain ⟨o0,o1,o2,o3,o4,o5,o6,o7⟩:=Yal hop
 unfold opC at hW0 ⊢
 have hm:Int.tmod (x.n:Int) 16=0:=by rw [Int.tmod_eq_emod_of_nonneg (by omega)];omega
 have h2:¬ ((x.n:Int)<48):=by omega
 have hsz:=size_md hM0 hL
 have HM0:=Lib.hid hM0
 have hadd:=fun V=>add_low E x.n (by omega) V
 obtain ⟨t,ht⟩:∃ t,E+x.n=t:=⟨_,rfl⟩
 have h3:¬ ((all:Int)<(t:Int)):=by omega
 rw [ht] at hadd
 have HK:Hid ((l++[Ya9 E x.n]).length≤1000∧∀ z∈l++[Ya9 E x.n],z.b.s≤10000000):=Lib.hid ⟨by have:=hL.few;simp;omega,fun z hz=>by
  rcases List.mem_append.1 hz with h1|h1
  ·have:=hL.mem h1;have:=hL.top;omega
  ·rw [List.mem_singleton.1 h1];show x.n≤_;omega⟩
 have HN:Hid (l.length≤1000):=Lib.hid (by have:=hL.few;omega)
 clear hop hres hg0 hM0 h hle ht h16 h48 hL hall
 go_enter Tryz.func67,Tryz.ntmps67
 go_wp2_with (first
  | (go_at_call 22;go_must ((with_reducible refine hsz.mono ?_);rintro e w3 ⟨rfl,hg3⟩;have hop3:=(hg3.block _ (lt_of_block HOX.out) (by simp)).trans HOX.out;obtain ⟨_,q1,_,_,_,_,_,_⟩:=Yal hop3;obtain ⟨g,cap,f,M,hst,hk,hPg,hFg,hFM,hmp⟩:=(HM0.out.later hg3).ex;obtain ⟨d0,d1,d2⟩:=hst.cells))
  | (go_at_call 97;go_must ((with_reducible refine (hadd _).mono ?_);rintro e w5 ⟨rfl,rfl⟩)))
 have hb4:=Yab w3 (.cells #[.int .u64 (E:Nat),.int .u64 (x.n:Nat),.bool false,.int .i64 0,.int .u64 0,.slice none 0 0] 53)
 have hg4:=World.grownBy_alloc w3 (.cells #[.int .u64 (E:Nat),.int .u64 (x.n:Nat),.bool false,.int .i64 0,.int .u64 0,.slice none 0 0] 53) none
 obtain ⟨W4,hW4⟩:∃ W4,w3.alloc (.cells #[.int .u64 (E:Nat),.int .u64 (x.n:Nat),.bool false,.int .i64 0,.int .u64 0,.slice none 0 0] 53)=W4:=⟨_,rfl⟩
 rw [hW4] at hb4 hg4
 have hgd:=Yah hg4
 have hM4:=(HM0.out.later hg3).later hgd
 have hst4:=hst.later hgd
 have hmp4:=hmp.later hgd
 have hcz:∀ j u,(Ya9 E x.n).cel[j]?=some u→W4.drew.cell? ((⟨w3.heap.size,0,none⟩:Addr).add j)=some u:=fun j u hj=>by
  rw [← hW4];exact cells_lit w3 (Ya9 E x.n) j u hj
 have e0:w3.drew.cell? ⟨P,1,none⟩=some (.slice (some ⟨g,0,none⟩) l.length cap):=d1
 have e1:w3.drew.cell? ⟨w.heap.size,1,none⟩=some (.int .u64 (x.n:Nat)):=q1
 have e2:W4.cell? ⟨P,1,none⟩=some (.slice (some ⟨g,0,none⟩) l.length cap):=hst4.cells.2.1
 have e3:W4.cell? ⟨w.heap.size,1,none⟩=some (.int .u64 (x.n:Nat)):=hg4.cell q1 (by simp)
 have HAP:=fun g' cap' w1 (hr:RowF w1 g' cap' (l.length+1) (insF f l.length (Ya9 E x.n))) (hg:W4.drew.grownBy w1 (some g)) (hl:g'=g∨W4.drew.heap.size≤g')=>hM4.appended (z:=Ya9 E x.n) hst4 hk hPg hFg hFM hmp4 (Yeb _ _) hr hg hl
 have hrow4:=hst4.row
 have HM4:=Lib.hid hM4
 have HG4:=Lib.hid (Yaa hg3 hgd)
 clear hM4 hst4 hmp4 hb4 hg4 hgd hop3
 go_region_law (first
  | (refine step_append_kb hrow4 HN.out hcz rfl _ _ rfl rfl rfl ?_;intro g' cap' w6 hrow6 hg6 hl6;obtain ⟨hM6,m1,m2⟩:=HAP g' cap' w6 hrow6 hg6 hl6))
 all_goals
  obtain ⟨W7,hW7⟩:∃ W7,w6.setCell ⟨P,1,none⟩ (.slice (some ⟨g',0,none⟩) (l.length+1) cap')=W7:=⟨_,rfl⟩
  rw [hW7] at hM6
  have hmg:=merge_md hM6.1 HK.out.1 HK.out.2
  have HM6:=Lib.hid hM6
  clear hM6
  go_wp2_with (go_at_call 40;go_must ((with_reducible refine hmg.mono ?_);rintro e w8 ⟨rfl,h8⟩;have hR7:=MdR.seq HM6.out.2 h8 (fun g hg=>Nat.lt_of_lt_of_le (HLT.out g hg) HG4.out.size);have hR8:=MdR.first HG4.out hR7 HLT.out;have hbx3:=Yay hR8.2 HRX.out HNF.out;obtain ⟨y0,y1,y2⟩:=Yaf hbx3;obtain ⟨z0,z1,z2⟩:=Yak hbx3))
  have q:=Yaz hbx3 (x':=.int .i64 0) (y':=.int .u64 0) (z':=.int .u64 0)
  obtain ⟨k0,k1,k2⟩:=Yaf q
  refine bodyPost_ret (v:=.agg #[.int .i64 0,.int .u64 0,.int .u64 0]) (by simp [results,Tryz.results67,go_sem,k0,k1,k2]) rfl ?_
  exact ⟨rfl,hR8.boxed HG0.out HLW.out (by omega) hbx3 (by decide) (by decide) (by decide) (Yaa (Yac _ _ _ _) (Yaa (Yac _ _ _ _) (Yac _ _ _ _)))⟩
end
end
section
open Go.Maps (Keyed)
theorem wpList_next_su {P:Program} (w:World) {ops:Array Oper} {rest:List Oper} {o:Oper} {a:Act} {Q:Exit→Act→World→Prop} (hg:o.guard=none) (it:Operand) (hop:o.op=Op.next it false) (k e:TypeId) (K:Keyed P k) (hk:P.underlying k=some .string) (he:P.underlying e=some (.int .u64))
  (b r n:Nat) (D:DataW Unit) (left:Lit→Bool) (cnt:Nat) (hit:a.eval it=.pointer (some ⟨r,0,none⟩)) (h:w.ranges P k (plainElem P e) b r n D left cnt)
  (hDone:cnt=0→(∀ kl,left kl=false)→wpList P ops Q rest (a.put o.dst (.tuple #[.bool false])) w)
  (hMore:∀ (s:ByteArray) (c:Int) (w':World) (cnt':Nat),s.size≤maxLen→(Lit.int .u64 c).wf=true→left (.string s.data.toList)=true→(∀ zd,D.atKey (.string s.data.toList) zd=.lit (.int .u64 c))→w'.ranges P k (plainElem P e) b r n D (fun z=>left z && !z.sameKey (.string s.data.toList)) cnt'→cnt'<cnt →
   w.grownBy w' (some r)→w'.heap.size=w.heap.size→(Instr.entry (.pointer (some ⟨r,0,none⟩))).run P w'=.ok (.tuple #[.string s,.int .u64 c]) w'→wpList P ops Q rest (a.put o.dst (.tuple #[.bool true,.string s,.int .u64 c])) w') :
  wpList P ops Q (o::rest) a w:=by
 have inv:∀ key kl,keyOf P k key=some kl→∃ s:ByteArray,key=.string s∧kl=.string s.data.toList∧s.size≤maxLen:=fun key kl hkey=>WideMaps.string_of_keyOf hk hkey
 exact wpList_next_ranges w hg it hop k K (plainElem P e) Value.string (Value.int .u64) (fun key kl hkey=>by obtain ⟨x,rfl,_⟩:=inv key kl hkey;exact ⟨x,rfl⟩) (fun v y hv=>by obtain ⟨c,rfl,_⟩:=plainElem_int_inv he hv;exact ⟨c,rfl⟩)
  b r n D left cnt hit h hDone (fun x c kl y w' cnt' hkey hlk hv hat hrg hlt hgr hsz hen=>by
   obtain ⟨x',ex,rfl,hwx⟩:=inv _ _ hkey
   cases ex
   obtain ⟨c',ec,rfl,hwc⟩:=plainElem_int_inv he hv
   cases ec
   exact hMore x c w' cnt' hwx hwc hlk hat hrg hlt hgr hsz hen)
section
variable {w w' w1 w2:World} {F:Nat→Prop} {P all E c i M p:Nat} {ns:List (ByteArray × Nat)} {lv:Nat→Bool} {l A C:List KB} {y:KB} {x:OpM}
theorem SaysN.entry {D:DataW Unit} {s:ByteArray} {cc:Int} (h:SaysN D ns) (ha:∀ zd,D.atKey (.string s.data.toList) zd=.lit (.int .u64 cc)):∃ q:Nat,Yb4 ns s=some q∧cc=(q:Int):=by
 have h1:=Maps.has_true_of_atKey ha
 rw [h.has s] at h1
 obtain ⟨q,hq⟩:=Option.isSome_iff_exists.1 h1
 have h2:=h.at_ s
 rw [ha,hq] at h2
 exact ⟨q,hq,by injection h2 with h2;injection h2⟩
set_option maxHeartbeats 2000000 in
theorem mfree_bad (h:Md w F P all l ns lv) (hs:Sane E l) (hc:c<8) (hne:Ybj (l.map KB.b) x.off [0,((c:Int)+1)]≠0) :
  Calls Tryz.prog 59 #[.pointer (some ⟨P,0,none⟩),.int .i64 c,.agg (opC x)] w fun e w'=>e=.returned (.agg #[.int .i64 (Ybj (l.map KB.b) x.off [0,((c:Int)+1)]:Nat),.int .u64 0,.int .u64 0])∧w.grownBy w' none:=by
 obtain ⟨hop,hres,hg0⟩:=Ybq (w:=w) x
 obtain ⟨W0,hW0⟩:∃ W0,((w.alloc (.cells (opC x) 41)).alloc (.cells #[.int .i64 0,.int .u64 0,.int .u64 0] 46))=W0:=⟨_,rfl⟩
 rw [hW0] at hop hres hg0
 have hM0:=h.later hg0
 have HNF:Hid (¬ F (w.heap.size+1)):=Lib.hid (fun hF=>by have:=h.lt _ hF;omega)
 have HNO:Hid (¬ F w.heap.size):=Lib.hid (fun hF=>by have:=h.lt _ hF;omega)
 have HLT:Hid (∀ g,F g→g<W0.heap.size):=Lib.hid (fun g hg=>Nat.lt_of_lt_of_le (h.lt g hg) hg0.size)
 have HLW:=Lib.hid h.lt
 have HRX:=Lib.hid hres
 have HOX:=Lib.hid hop
 have HG0:=Lib.hid hg0
 obtain ⟨o0,o1,o2,o3,o4,o5,o6,o7⟩:=Yal hop
 unfold opC at hW0 ⊢
 have how:=fun V=>Ybg hc V
 obtain ⟨W1,hW1⟩:∃ W1,(W0.alloc (.cells #[.int .i64 0,.int .i64 ((c:Int)+1)] 3)).drew=W1:=⟨_,rfl⟩
 have hg1:W0.grownBy W1 none:=by rw [← hW1];exact Yah (World.grownBy_alloc _ _ _)
 have hin1:Ycj W1 W0.heap.size [0,((c:Int)+1)]:=by
  rw [← hW1]
  exact (ints_two W0 _ _).later (Yah (Yag _ none))
 have hus:=Ycs (hM0.later hg1) hs.lay x.off (ow:=[0,((c:Int)+1)]) (m:=2) rfl (by decide) hin1 2
 obtain ⟨ui,hui⟩:∃ ui,Yei (l.map KB.b) x.off [0,((c:Int)+1)]=ui:=⟨_,rfl⟩
 obtain ⟨ue,hue⟩:∃ ue,Ybj (l.map KB.b) x.off [0,((c:Int)+1)]=ue:=⟨_,rfl⟩
 have p3:W0.drew.cell? ⟨w.heap.size,3,none⟩=some (.int .u64 (x.off:Nat)):=o3
 have p4:W1.cell? ⟨w.heap.size,3,none⟩=some (.int .u64 (x.off:Nat)):=hg1.cell o3 (by simp)
 have p5:(W0.alloc (.cells #[.int .i64 0,.int .i64 ((c:Int)+1)] 3)).cell? ⟨w.heap.size,3,none⟩=some (.int .u64 (x.off:Nat)):=(World.grownBy_alloc W0 _ none).cell o3 (by simp)
 have HG1:=Lib.hid hg1
 rw [hui,hue] at hus
 rw [hue] at hne ⊢
 have h1:¬ ((ue:Int)=0):=by omega
 have h2:((ue:Int) != 0)=true:=by simp;omega
 have hfl:=fun V=>Ya6 (ue:Int) V
 clear hop hres hg0 hM0 h hui hue hin1 hg1 hne
 go_enter Tryz.func59,Tryz.ntmps59
 go_wp2
 go_region_law (first
  | (go_simp;go_at_call 38;go_must ((with_reducible refine (how _).mono ?_);rintro e v1 ⟨rfl,rfl⟩))
  | (go_simp;go_at_call 88;go_must ((with_reducible refine hus.mono ?_);rintro e w2 ⟨rfl,hg2⟩;have hGG:=Yaa HG1.out hg2)))
 all_goals
  have hbx:=(hGG.block _ (lt_of_block HRX.out) (by simp)).trans HRX.out
  go_wp2_with (go_at_call 33;go_must ((with_reducible refine (hfl _).mono ?_);rintro e w3 ⟨rfl,hg3⟩;have hbx3:=(hg3.block _ (lt_of_block hbx) (by simp)).trans hbx;obtain ⟨y0,y1,y2⟩:=Yaf hbx3;obtain ⟨z0,z1,z2⟩:=Yak hbx3))
  have q:=Yaz hbx3 (x':=.int .i64 (ue:Nat)) (y':=.int .u64 0) (z':=.int .u64 0)
  obtain ⟨k0,k1,k2⟩:=Yaf q
  refine bodyPost_ret (v:=.agg #[.int .i64 (ue:Nat),.int .u64 0,.int .u64 0]) (by simp [results,Tryz.results59,go_sem,k0,k1,k2]) rfl ?_
  exact ⟨rfl,Yap (Yaa (Yam (Yaa HG0.out (Yaa hGG hg3)) (some (w.heap.size+1))) (Yaa (Yac _ _ _ _) (Yaa (Yac _ _ _ _) (Yac _ _ _ _)))) (by omega)⟩
set_option maxHeartbeats 4000000 in
theorem mfree_there (h:Md w F P all l ns lv) (hs:Sane E l) (hc:c<8) (hz:Ybj (l.map KB.b) x.off [0,((c:Int)+1)]=0) (hi:fstN (pF x.off) (l.map KB.b)=some i) (hl:l=A++y::C) (hA:A.length=i) (hth:∃ s,Yb4 ns s=some x.off) :
  Calls Tryz.prog 59 #[.pointer (some ⟨P,0,none⟩),.int .i64 c,.agg (opC x)] w fun e w'=>e=.returned (.agg #[.int .i64 7,.int .u64 0,.int .u64 0])∧w.grownBy w' none:=by
 obtain ⟨hop,hres,hg0⟩:=Ybq (w:=w) x
 obtain ⟨W0,hW0⟩:∃ W0,((w.alloc (.cells (opC x) 41)).alloc (.cells #[.int .i64 0,.int .u64 0,.int .u64 0] 46))=W0:=⟨_,rfl⟩
 rw [hW0] at hop hres hg0
 have hM0:=h.later hg0
 have HNF:Hid (¬ F (w.heap.size+1)):=Lib.hid (fun hF=>by have:=h.lt _ hF;omega)
 have HNO:Hid (¬ F w.heap.size):=Lib.hid (fun hF=>by have:=h.lt _ hF;omega)
 have HLT:Hid (∀ g,F g→g<W0.heap.size):=Lib.hid (fun g hg=>Nat.lt_of_lt_of_le (h.lt g hg) hg0.size)
 have HLW:=Lib.hid h.lt
 have HRX:=Lib.hid hres
 have HOX:=Lib.hid hop
 have HG0:=Lib.hid hg0
 obtain ⟨o0,o1,o2,o3,o4,o5,o6,o7⟩:=Yal hop
 unfold opC at hW0 ⊢
 have how:=fun V=>Ybg hc V
 obtain ⟨W1,hW1⟩:∃ W1,(W0.alloc (.cells #[.int .i64 0,.int .i64 ((c:Int)+1)] 3)).drew=W1:=⟨_,rfl⟩
 have hg1:W0.grownBy W1 none:=by rw [← hW1];exact Yah (World.grownBy_alloc _ _ _)
 have hin1:Ycj W1 W0.heap.size [0,((c:Int)+1)]:=by
  rw [← hW1]
  exact (ints_two W0 _ _).later (Yah (Yag _ none))
 have hus:=Ycs (hM0.later hg1) hs.lay x.off (ow:=[0,((c:Int)+1)]) (m:=2) rfl (by decide) hin1 2
 obtain ⟨ui,hui⟩:∃ ui,Yei (l.map KB.b) x.off [0,((c:Int)+1)]=ui:=⟨_,rfl⟩
 obtain ⟨ue,hue⟩:∃ ue,Ybj (l.map KB.b) x.off [0,((c:Int)+1)]=ue:=⟨_,rfl⟩
 have p3:W0.drew.cell? ⟨w.heap.size,3,none⟩=some (.int .u64 (x.off:Nat)):=o3
 have p4:W1.cell? ⟨w.heap.size,3,none⟩=some (.int .u64 (x.off:Nat)):=hg1.cell o3 (by simp)
 have p5:(W0.alloc (.cells #[.int .i64 0,.int .i64 ((c:Int)+1)] 3)).cell? ⟨w.heap.size,3,none⟩=some (.int .u64 (x.off:Nat)):=(World.grownBy_alloc W0 _ none).cell o3 (by simp)
 have HG1:=Lib.hid hg1
 obtain ⟨i',hi1,_,hi3⟩:=Ycm hz
 have hii:ui=i:=by rw [hi] at hi1;injection hi1 with hi1;rw [← hui,hi3,hi1]
 rw [hui,hz,hii] at hus
 have hfl:=fun V=>Ya6 7 V
 have HM0:=Lib.hid hM0
 have HTH:=Lib.hid hth
 clear hop hres hg0 hM0 h hui hue hin1 hg1 hz hi hi1 hi3 hii hth hs
 go_enter Tryz.func59,Tryz.ntmps59
 go_wp2
 go_region_law (first
  | (go_simp;go_at_call 38;go_must ((with_reducible refine (how _).mono ?_);rintro e v1 ⟨rfl,rfl⟩))
  | (go_simp;go_at_call 88;go_must ((with_reducible refine hus.mono ?_);rintro e w2 ⟨rfl,hg2⟩;have hGG:=Yaa HG1.out hg2)))
 all_goals
  obtain ⟨g,cap,f,M,hst,hk,hPg,hFg,hFM,D,hown,hD⟩:=(HM0.out.later hGG).ex
  obtain ⟨d0,d1,d2⟩:=hst.cells
  have HD:=Lib.hid hD
  clear hst hk hD
  go_wp2_with (at_range;refine wpList_range_own _ rfl _ 89 rfl 9 26 lawS undM _ M ns.length D rfl hown ?_;intro w4 hrg0 hg4 hs4)
  go_frame
  go_loopw [10] (fun _ wr=>∃ (left:Lit→Bool) (cnt:Nat),wr.ranges Tryz.prog 9 (plainElem Tryz.prog 26) M w2.heap.size ns.length D left cnt∧w2.grownBy wr none∧Hid (∃ s,Yb4 ns s=some x.off∧left (.string s.data.toList)=true)) (fun _ wr=>wr.rangeLeft M w2.heap.size)
  case atStart=>exact ⟨_,_,hrg0,hg4,Lib.hid (by obtain ⟨s,hs⟩:=HTH.out;exact ⟨s,hs,by rw [HD.out.has s,hs];rfl⟩)⟩
  case round =>
   obtain ⟨left,cnt,hrg,hgr,HI⟩:=hrel
   go_wp2_with (at_next;refine wpList_next_su _ rfl _ rfl 9 26 lawS undS undU M w2.heap.size ns.length _ _ _ rfl hrg ?_ ?_)
   ·intro hc0 hl0
    obtain ⟨s,hs,hl⟩:=HI.out
    rw [hl0] at hl
    cases hl
   ·intro s cc w1 cnt1 hws hwc hlx hat hrg1 hlt hg1 hs1 hen
    have hgr1:w2.grownBy w1 none:=Yap (Yaa (Yam hgr _) hg1) (Nat.le_refl _)
    obtain ⟨q,hq,rfl⟩:=HD.out.entry hat
    have hop1:=((Yaa hGG hgr1).block _ (lt_of_block HOX.out) (by simp)).trans HOX.out
    obtain ⟨_,_,_,q3,_,_,_,_⟩:=Yal hop1
    have HLF:=Lib.hid hlt
    clear hop1 hlt
    by_cases hqo:q=x.off
    ·have hne':((q:Int) == (x.off:Int))=true:=by simp;omega
     go_wp2_with (go_at_call 33;go_must ((with_reducible refine (hfl _).mono ?_);rintro e w5 ⟨rfl,hg5⟩;have hGH:=Yaa hGG (Yaa hgr1 hg5);have hbx3:=(hGH.block _ (lt_of_block HRX.out) (by simp)).trans HRX.out;obtain ⟨y0,y1,y2⟩:=Yaf hbx3;obtain ⟨z0,z1,z2⟩:=Yak hbx3))
     have q:=Yaz hbx3 (x':=.int .i64 7) (y':=.int .u64 0) (z':=.int .u64 0)
     obtain ⟨k0,k1,k2⟩:=Yaf q
     refine bodyPost_ret (v:=.agg #[.int .i64 7,.int .u64 0,.int .u64 0]) (by simp [results,Tryz.results59,go_sem,k0,k1,k2]) rfl ?_
     exact ⟨rfl,Yap (Yaa (Yam (Yaa HG0.out hGH) (some (w.heap.size+1))) (Yaa (Yac _ _ _ _) (Yaa (Yac _ _ _ _) (Yac _ _ _ _)))) (by omega)⟩
    ·obtain ⟨s',hs',hl'⟩:=HI.out
     have hss:s'≠s:=fun e=>by rw [e,hq] at hs';injection hs' with hs';exact hqo hs'
     have HS2:Hid (Yb4 ns s'=some x.off∧(left (.string s'.data.toList) && !(Lit.string s'.data.toList).sameKey (.string s.data.toList))=true):=Lib.hid ⟨hs',by rw [hl',Maps.sameKey_ne (lit_ne hss)];rfl⟩
     clear hs' hl' hss
     have hne':((q:Int) == (x.off:Int))=false:=by simp;omega
     go_wp2
     go_roundw
     case rel=>exact ⟨_,cnt1,hrg1,hgr1,Lib.hid (⟨s',HS2.out⟩)⟩
     case measure=>rw [hrg1.left_eq,hrg.left_eq];exact HLF.out
set_option maxHeartbeats 4000000 in
theorem mfree_ok (h:Md w F P all l ns lv) (hs:Sane E l) (hc:c<8) (hz:Ybj (l.map KB.b) x.off [0,((c:Int)+1)]=0) (hi:fstN (pF x.off) (l.map KB.b)=some i) (hl:l=A++y::C) (hA:A.length=i) (hnt:∀ s,Yb4 ns s≠some x.off) :
  Calls Tryz.prog 59 #[.pointer (some ⟨P,0,none⟩),.int .i64 c,.agg (opC x)] w fun e w'=>e=.returned (.agg #[.int .i64 0,.int .u64 0,.int .u64 0])∧MdR w w' F P all (jnL (A++y.free::C)) ns lv:=by
 obtain ⟨hop,hres,hg0⟩:=Ybq (w:=w) x
 obtain ⟨W0,hW0⟩:∃ W0,((w.alloc (.cells (opC x) 41)).alloc (.cells #[.int .i64 0,.int .u64 0,.int .u64 0] 46))=W0:=⟨_,rfl⟩
 rw [hW0] at hop hres hg0
 have hM0:=h.later hg0
 have HNF:Hid (¬ F (w.heap.size+1)):=Lib.hid (fun hF=>by have:=h.lt _ hF;omega)
 have HNO:Hid (¬ F w.heap.size):=Lib.hid (fun hF=>by have:=h.lt _ hF;omega)
 have HLT:Hid (∀ g,F g→g<W0.heap.size):=Lib.hid (fun g hg=>Nat.lt_of_lt_of_le (h.lt g hg) hg0.size)
 have HLW:=Lib.hid h.lt
 have HRX:=Lib.hid hres
 have HOX:=Lib.hid hop
 have HG0:=Lib.hid hg0
 obtain ⟨o0,o1,o2,o3,o4,o5,o6,o7⟩:=Yal hop
 unfold opC at hW0 ⊢
 have how:=fun V=>Ybg hc V
 obtain ⟨W1,hW1⟩:∃ W1,(W0.alloc (.cells #[.int .i64 0,.int .i64 ((c:Int)+1)] 3)).drew=W1:=⟨_,rfl⟩
 have hg1:W0.grownBy W1 none:=by rw [← hW1];exact Yah (World.grownBy_alloc _ _ _)
 have hin1:Ycj W1 W0.heap.size [0,((c:Int)+1)]:=by
  rw [← hW1]
  exact (ints_two W0 _ _).later (Yah (Yag _ none))
 have hus:=Ycs (hM0.later hg1) hs.lay x.off (ow:=[0,((c:Int)+1)]) (m:=2) rfl (by decide) hin1 2
 obtain ⟨ui,hui⟩:∃ ui,Yei (l.map KB.b) x.off [0,((c:Int)+1)]=ui:=⟨_,rfl⟩
 obtain ⟨ue,hue⟩:∃ ue,Ybj (l.map KB.b) x.off [0,((c:Int)+1)]=ue:=⟨_,rfl⟩
 have p3:W0.drew.cell? ⟨w.heap.size,3,none⟩=some (.int .u64 (x.off:Nat)):=o3
 have p4:W1.cell? ⟨w.heap.size,3,none⟩=some (.int .u64 (x.off:Nat)):=hg1.cell o3 (by simp)
 have p5:(W0.alloc (.cells #[.int .i64 0,.int .i64 ((c:Int)+1)] 3)).cell? ⟨w.heap.size,3,none⟩=some (.int .u64 (x.off:Nat)):=(World.grownBy_alloc W0 _ none).cell o3 (by simp)
 have HG1:=Lib.hid hg1
 obtain ⟨i',hi1,_,hi3⟩:=Ycm hz
 have hii:ui=i:=by rw [hi] at hi1;injection hi1 with hi1;rw [← hui,hi3,hi1]
 rw [hui,hz,hii] at hus
 have HM0:=Lib.hid hM0
 have HNT:=Lib.hid hnt
 have HL:=Lib.hid hl
 have HK:Hid (l.length≤1000∧∀ z∈l,z.b.s≤10000000):=Lib.hid ⟨by have:=hs.lay.few;omega,fun z hz=>by have:=hs.lay.mem hz;have:=hs.lay.top;omega⟩
 clear hop hres hg0 hM0 h hui hue hin1 hg1 hz hi hi1 hi3 hii hnt hs hl
 go_enter Tryz.func59,Tryz.ntmps59
 go_wp2
 go_region_law (first
  | (go_simp;go_at_call 38;go_must ((with_reducible refine (how _).mono ?_);rintro e v1 ⟨rfl,rfl⟩))
  | (go_simp;go_at_call 88;go_must ((with_reducible refine hus.mono ?_);rintro e w2 ⟨rfl,hg2⟩;have hGG:=Yaa HG1.out hg2)))
 all_goals
  obtain ⟨g,cap,f,M,hst,hk,hPg,hFg,hFM,D,hown,hD⟩:=(HM0.out.later hGG).ex
  obtain ⟨d0,d1,d2⟩:=hst.cells
  have HD:=Lib.hid hD
  clear hst hk hD
  go_wp2_with (at_range;refine wpList_range_own _ rfl _ 89 rfl 9 26 lawS undM _ M ns.length D rfl hown ?_;intro w4 hrg0 hg4 hs4)
  go_frame
  go_loopw [10] (fun _ wr=>∃ (left:Lit→Bool) (cnt:Nat),wr.ranges Tryz.prog 9 (plainElem Tryz.prog 26) M w2.heap.size ns.length D left cnt∧w2.grownBy wr none∧Hid (True)) (fun _ wr=>wr.rangeLeft M w2.heap.size)
  case atStart=>exact ⟨_,_,hrg0,hg4,Lib.hid (trivial)⟩
  case round =>
   obtain ⟨left,cnt,hrg,hgr,HI⟩:=hrel
   go_wp2_with (at_next;refine wpList_next_su _ rfl _ rfl 9 26 lawS undS undU M w2.heap.size ns.length _ _ _ rfl hrg ?_ ?_)
   ·intro hc0 hl0
    have hrl:=fun (V:World) (hgV:W0.grownBy V none)=>release_md (A:=A) (x:=y) (C:=C) (i:=i) (w:=V) (F:=F) (P:=P) (all:=all) (ns:=ns) (lv:=lv) (by rw [← HL.out];exact HM0.out.later hgV) (by rw [← HL.out];exact HK.out.1) (by rw [← HL.out];exact HK.out.2) hA
    have hGr:=Yaa hGG hgr
    go_wp2_with (go_at_call 93;go_must ((with_reducible refine (hrl _ hGr).mono ?_);rintro e w7 ⟨rfl,h7⟩;have hR8:=MdR.first hGr h7 HLT.out;have hbx3:=Yay hR8.2 HRX.out HNF.out;obtain ⟨y0,y1,y2⟩:=Yaf hbx3;obtain ⟨z0,z1,z2⟩:=Yak hbx3))
    have q:=Yaz hbx3 (x':=.int .i64 0) (y':=.int .u64 0) (z':=.int .u64 0)
    obtain ⟨k0,k1,k2⟩:=Yaf q
    refine bodyPost_ret (v:=.agg #[.int .i64 0,.int .u64 0,.int .u64 0]) (by simp [results,Tryz.results59,go_sem,k0,k1,k2]) rfl ?_
    exact ⟨rfl,hR8.boxed HG0.out HLW.out (by omega) hbx3 (by decide) (by decide) (by decide) (Yaa (Yac _ _ _ _) (Yaa (Yac _ _ _ _) (Yac _ _ _ _)))⟩
   ·intro s cc w1 cnt1 hws hwc hlx hat hrg1 hlt hg1 hs1 hen
    have hgr1:w2.grownBy w1 none:=Yap (Yaa (Yam hgr _) hg1) (Nat.le_refl _)
    obtain ⟨q,hq,rfl⟩:=HD.out.entry hat
    have hop1:=((Yaa hGG hgr1).block _ (lt_of_block HOX.out) (by simp)).trans HOX.out
    obtain ⟨_,_,_,q3,_,_,_,_⟩:=Yal hop1
    have HLF:=Lib.hid hlt
    clear hop1 hlt
    ·have hqo:q≠x.off:=fun e=>HNT.out s (by rw [hq,e])
     have hne':((q:Int) == (x.off:Int))=false:=by simp;omega
     go_wp2
     go_roundw
     case rel=>exact ⟨_,cnt1,hrg1,hgr1,Lib.hid (trivial)⟩
     case measure=>rw [hrg1.left_eq,hrg.left_eq];exact HLF.out
end
end
section
section
variable {w w' w1 w2:World} {F:Nat→Prop} {P all E c i M p:Nat} {ns:List (ByteArray × Nat)} {lv:Nat→Bool} {l A C:List KB} {y:KB} {x:OpM}
theorem cutK_len (x:KB) (need:Nat):(cutK x need).length≤2:=by unfold cutK;split <;> simp
theorem cutK_all {x y:KB} {need:Nat} (hn:need≤y.b.s) (h:∀ z∈A++y::C,z.b.s≤4800) (hs:x.b.s=y.b.s):∀ z∈A++cutK x need++C,z.b.s≤10000000:=fun z hz=>by
 have hy:=h y (by simp)
 rcases List.mem_append.1 hz with h1|h1
 ·rcases List.mem_append.1 h1 with h2|h2
  ·have:=h z (by simp [h2]);omega
  ·unfold cutK at h2
   split at h2
   ·rw [List.mem_singleton.1 h2];omega
   ·rcases List.mem_cons.1 h2 with rfl|h3
    ·show need≤_;omega
    ·rw [List.mem_singleton.1 h3];show x.b.s - need≤_;omega
 ·have:=h z (by simp [h1]);omega
set_option maxHeartbeats 2000000 in
theorem mrealloc_bad (h:Md w F P all l ns lv) (hs:Sane E l) (hc:c<8) (hne:Ybj (l.map KB.b) x.off [((c:Int)+1)]≠0) :
  Calls Tryz.prog 58 #[.pointer (some ⟨P,0,none⟩),.int .i64 c,.agg (opC x)] w fun e w'=>e=.returned (.agg #[.int .i64 (Ybj (l.map KB.b) x.off [((c:Int)+1)]:Nat),.int .u64 0,.int .u64 0])∧w.grownBy w' none:=by
 obtain ⟨hop,hres,hg0⟩:=Ybq (w:=w) x
 obtain ⟨W0,hW0⟩:∃ W0,((w.alloc (.cells (opC x) 41)).alloc (.cells #[.int .i64 0,.int .u64 0,.int .u64 0] 46))=W0:=⟨_,rfl⟩
 rw [hW0] at hop hres hg0
 have hM0:=h.later hg0
 have HNF:Hid (¬ F (w.heap.size+1)):=Lib.hid (fun hF=>by have:=h.lt _ hF;omega)
 have HNO:Hid (¬ F w.heap.size):=Lib.hid (fun hF=>by have:=h.lt _ hF;omega)
 have HLT:Hid (∀ g,F g→g<W0.heap.size):=Lib.hid (fun g hg=>Nat.lt_of_lt_of_le (h.lt g hg) hg0.size)
 have HLW:=Lib.hid h.lt
 have HRX:=Lib.hid hres
 have HOX:=Lib.hid hop
 have HG0:=Lib.hid hg0
 obtain ⟨o0,o1,o2,o3,o4,o5,o6,o7⟩:=Yal hop
 unfold opC at hW0 ⊢
 have how:=fun V=>Ybg hc V
 obtain ⟨W1,hW1⟩:∃ W1,(W0.alloc (.cells #[.int .i64 ((c:Int)+1)] 3)).drew=W1:=⟨_,rfl⟩
 have hg1:W0.grownBy W1 none:=by rw [← hW1];exact Yah (World.grownBy_alloc _ _ _)
 have hin1:Ycj W1 W0.heap.size [((c:Int)+1)]:=by
  rw [← hW1]
  exact (Ydh W0 _).later (Yah (Yag _ none))
 have hus:=Ycs (hM0.later hg1) hs.lay x.off (ow:=[((c:Int)+1)]) (m:=1) rfl (by decide) hin1 1
 obtain ⟨ui,hui⟩:∃ ui,Yei (l.map KB.b) x.off [((c:Int)+1)]=ui:=⟨_,rfl⟩
 obtain ⟨ue,hue⟩:∃ ue,Ybj (l.map KB.b) x.off [((c:Int)+1)]=ue:=⟨_,rfl⟩
 have p3:W0.drew.cell? ⟨w.heap.size,3,none⟩=some (.int .u64 (x.off:Nat)):=o3
 have p4:W1.cell? ⟨w.heap.size,3,none⟩=some (.int .u64 (x.off:Nat)):=hg1.cell o3 (by simp)
 have p5:(W0.alloc (.cells #[.int .i64 ((c:Int)+1)] 3)).cell? ⟨w.heap.size,3,none⟩=some (.int .u64 (x.off:Nat)):=(World.grownBy_alloc W0 _ none).cell o3 (by simp)
 have HG1:=Lib.hid hg1
 rw [hui,hue] at hus
 rw [hue] at hne ⊢
 have h1:¬ ((ue:Int)=0):=by omega
 have h2:((ue:Int) != 0)=true:=by simp;omega
 have hfl:=fun V=>Ya6 (ue:Int) V
 clear hop hres hg0 hM0 h hui hue hin1 hg1 hne
 go_enter Tryz.func58,Tryz.ntmps58
 go_wp2
 go_region_law (first
  | (go_simp;go_at_call 38;go_must ((with_reducible refine (how _).mono ?_);rintro e v1 ⟨rfl,rfl⟩))
  | (go_simp;go_at_call 88;go_must ((with_reducible refine hus.mono ?_);rintro e w2 ⟨rfl,hg2⟩;have hGG:=Yaa HG1.out hg2)))
 all_goals
  have hbx:=(hGG.block _ (lt_of_block HRX.out) (by simp)).trans HRX.out
  go_wp2_with (go_at_call 33;go_must ((with_reducible refine (hfl _).mono ?_);rintro e w3 ⟨rfl,hg3⟩;have hbx3:=(hg3.block _ (lt_of_block hbx) (by simp)).trans hbx;obtain ⟨y0,y1,y2⟩:=Yaf hbx3;obtain ⟨z0,z1,z2⟩:=Yak hbx3))
  have q:=Yaz hbx3 (x':=.int .i64 (ue:Nat)) (y':=.int .u64 0) (z':=.int .u64 0)
  obtain ⟨k0,k1,k2⟩:=Yaf q
  refine bodyPost_ret (v:=.agg #[.int .i64 (ue:Nat),.int .u64 0,.int .u64 0]) (by simp [results,Tryz.results58,go_sem,k0,k1,k2]) rfl ?_
  exact ⟨rfl,Yap (Yaa (Yam (Yaa HG0.out (Yaa hGG hg3)) (some (w.heap.size+1))) (Yaa (Yac _ _ _ _) (Yaa (Yac _ _ _ _) (Yac _ _ _ _)))) (by omega)⟩
set_option maxHeartbeats 2000000 in
theorem mrealloc_size (h:Md w F P all l ns lv) (hs:Sane E l) (hc:c<8) (hz:Ybj (l.map KB.b) x.off [((c:Int)+1)]=0) (hi:fstN (pF x.off) (l.map KB.b)=some i) (hl:l=A++y::C) (hA:A.length=i) (hxn:x.n<18446744073709551616) (hno:18446744073709551560<x.n) :
  Calls Tryz.prog 58 #[.pointer (some ⟨P,0,none⟩),.int .i64 c,.agg (opC x)] w fun e w'=>e=.returned (.agg #[.int .i64 2,.int .u64 0,.int .u64 0])∧w.grownBy w' none:=by
 obtain ⟨hop,hres,hg0⟩:=Ybq (w:=w) x
 obtain ⟨W0,hW0⟩:∃ W0,((w.alloc (.cells (opC x) 41)).alloc (.cells #[.int .i64 0,.int .u64 0,.int .u64 0] 46))=W0:=⟨_,rfl⟩
 rw [hW0] at hop hres hg0
 have hM0:=h.later hg0
 have HNF:Hid (¬ F (w.heap.size+1)):=Lib.hid (fun hF=>by have:=h.lt _ hF;omega)
 have HNO:Hid (¬ F w.heap.size):=Lib.hid (fun hF=>by have:=h.lt _ hF;omega)
 have HLT:Hid (∀ g,F g→g<W0.heap.size):=Lib.hid (fun g hg=>Nat.lt_of_lt_of_le (h.lt g hg) hg0.size)
 have HLW:=Lib.hid h.lt
 have HRX:=Lib.hid hres
 have HOX:=Lib.hid hop
 have HG0:=Lib.hid hg0
 obtain ⟨o0,o1,o2,o3,o4,o5,o6,o7⟩:=Yal hop
 unfold opC at hW0 ⊢
 have how:=fun V=>Ybg hc V
 obtain ⟨W1,hW1⟩:∃ W1,(W0.alloc (.cells #[.int .i64 ((c:Int)+1)] 3)).drew=W1:=⟨_,rfl⟩
 have hg1:W0.grownBy W1 none:=by rw [← hW1];exact Yah (World.grownBy_alloc _ _ _)
 have hin1:Ycj W1 W0.heap.size [((c:Int)+1)]:=by
  rw [← hW1]
  exact (Ydh W0 _).later (Yah (Yag _ none))
 have hus:=Ycs (hM0.later hg1) hs.lay x.off (ow:=[((c:Int)+1)]) (m:=1) rfl (by decide) hin1 1
 obtain ⟨ui,hui⟩:∃ ui,Yei (l.map KB.b) x.off [((c:Int)+1)]=ui:=⟨_,rfl⟩
 obtain ⟨ue,hue⟩:∃ ue,Ybj (l.map KB.b) x.off [((c:Int)+1)]=ue:=⟨_,rfl⟩
 have p3:W0.drew.cell? ⟨w.heap.size,3,none⟩=some (.int .u64 (x.off:Nat)):=o3
 have p4:W1.cell? ⟨w.heap.size,3,none⟩=some (.int .u64 (x.off:Nat)):=hg1.cell o3 (by simp)
 have p5:(W0.alloc (.cells #[.int .i64 ((c:Int)+1)] 3)).cell? ⟨w.heap.size,3,none⟩=some (.int .u64 (x.off:Nat)):=(World.grownBy_alloc W0 _ none).cell o3 (by simp)
 have HG1:=Lib.hid hg1
 obtain ⟨i',hi1,_,hi3⟩:=Ycm hz
 have hii:ui=i:=by rw [hi] at hi1;injection hi1 with hi1;rw [← hui,hi3,hi1]
 rw [hui,hz,hii] at hus
 have hfl:=fun V=>Ya6 2 V
 have hnd:=fun V=>need_high x.n hxn (by omega) V
 clear hop hres hg0 hM0 h hui hue hin1 hg1 hz hi hi1 hi3 hii hs
 go_enter Tryz.func58,Tryz.ntmps58
 go_wp2
 go_region_law (first
  | (go_simp;go_at_call 38;go_must ((with_reducible refine (how _).mono ?_);rintro e v1 ⟨rfl,rfl⟩))
  | (go_simp;go_at_call 88;go_must ((with_reducible refine hus.mono ?_);rintro e w2 ⟨rfl,hg2⟩;have hGG:=Yaa HG1.out hg2)))
 all_goals
  obtain ⟨_,q1,_,_,_,_,_,_⟩:=Yal ((hGG.block _ (lt_of_block HOX.out) (by simp)).trans HOX.out)
  go_wp2_with (first
   | (go_at_call 89;go_must ((with_reducible refine (hnd _).mono ?_);rintro e w4 ⟨rfl,rfl⟩))
   | (go_at_call 33;go_must ((with_reducible refine (hfl _).mono ?_);rintro e w5 ⟨rfl,hg5⟩;have hGH:=Yaa hGG hg5;have hbx3:=(hGH.block _ (lt_of_block HRX.out) (by simp)).trans HRX.out;obtain ⟨y0,y1,y2⟩:=Yaf hbx3;obtain ⟨z0,z1,z2⟩:=Yak hbx3)))
  have q:=Yaz hbx3 (x':=.int .i64 2) (y':=.int .u64 0) (z':=.int .u64 0)
  obtain ⟨k0,k1,k2⟩:=Yaf q
  refine bodyPost_ret (v:=.agg #[.int .i64 2,.int .u64 0,.int .u64 0]) (by simp [results,Tryz.results58,go_sem,k0,k1,k2]) rfl ?_
  exact ⟨rfl,Yap (Yaa (Yam (Yaa HG0.out hGH) (some (w.heap.size+1))) (Yaa (Yac _ _ _ _) (Yaa (Yac _ _ _ _) (Yac _ _ _ _)))) (by omega)⟩
set_option maxHeartbeats 4000000 in
theorem mrealloc_in (h:Md w F P all l ns lv) (hs:Sane E l) (hc:c<8) (hz:Ybj (l.map KB.b) x.off [((c:Int)+1)]=0) (hi:fstN (pF x.off) (l.map KB.b)=some i) (hl:l=A++y::C) (hA:A.length=i) (hu:y.b.u=true) (hxn:x.n≤18446744073709551560) (hle:Yat x.n≤y.b.s) :
  Calls Tryz.prog 58 #[.pointer (some ⟨P,0,none⟩),.int .i64 c,.agg (opC x)] w fun e w'=>e=.returned (.agg #[.int .i64 0,.int .u64 (x.off:Nat),.int .u64 0])∧∃ N,MdR w w' F P all (jnL (A++cutK (y.filled x.n (some ⟨N,0,none⟩)) (Yat x.n)++C)) ns lv:=by
 obtain ⟨hop,hres,hg0⟩:=Ybq (w:=w) x
 obtain ⟨W0,hW0⟩:∃ W0,((w.alloc (.cells (opC x) 41)).alloc (.cells #[.int .i64 0,.int .u64 0,.int .u64 0] 46))=W0:=⟨_,rfl⟩
 rw [hW0] at hop hres hg0
 have hM0:=h.later hg0
 have HNF:Hid (¬ F (w.heap.size+1)):=Lib.hid (fun hF=>by have:=h.lt _ hF;omega)
 have HNO:Hid (¬ F w.heap.size):=Lib.hid (fun hF=>by have:=h.lt _ hF;omega)
 have HLT:Hid (∀ g,F g→g<W0.heap.size):=Lib.hid (fun g hg=>Nat.lt_of_lt_of_le (h.lt g hg) hg0.size)
 have HLW:=Lib.hid h.lt
 have HRX:=Lib.hid hres
 have HOX:=Lib.hid hop
 have HG0:=Lib.hid hg0
 obtain ⟨o0,o1,o2,o3,o4,o5,o6,o7⟩:=Yal hop
 unfold opC at hW0 ⊢
 have how:=fun V=>Ybg hc V
 obtain ⟨W1,hW1⟩:∃ W1,(W0.alloc (.cells #[.int .i64 ((c:Int)+1)] 3)).drew=W1:=⟨_,rfl⟩
 have hg1:W0.grownBy W1 none:=by rw [← hW1];exact Yah (World.grownBy_alloc _ _ _)
 have hin1:Ycj W1 W0.heap.size [((c:Int)+1)]:=by
  rw [← hW1]
  exact (Ydh W0 _).later (Yah (Yag _ none))
 have hus:=Ycs (hM0.later hg1) hs.lay x.off (ow:=[((c:Int)+1)]) (m:=1) rfl (by decide) hin1 1
 obtain ⟨ui,hui⟩:∃ ui,Yei (l.map KB.b) x.off [((c:Int)+1)]=ui:=⟨_,rfl⟩
 obtain ⟨ue,hue⟩:∃ ue,Ybj (l.map KB.b) x.off [((c:Int)+1)]=ue:=⟨_,rfl⟩
 have p3:W0.drew.cell? ⟨w.heap.size,3,none⟩=some (.int .u64 (x.off:Nat)):=o3
 have p4:W1.cell? ⟨w.heap.size,3,none⟩=some (.int .u64 (x.off:Nat)):=hg1.cell o3 (by simp)
 have p5:(W0.alloc (.cells #[.int .i64 ((c:Int)+1)] 3)).cell? ⟨w.heap.size,3,none⟩=some (.int .u64 (x.off:Nat)):=(World.grownBy_alloc W0 _ none).cell o3 (by simp)
 have HG1:=Lib.hid hg1
 obtain ⟨i',hi1,_,hi3⟩:=Ycm hz
 have hii:ui=i:=by rw [hi] at hi1;injection hi1 with hi1;rw [← hui,hi3,hi1]
 rw [hui,hz,hii] at hus
 have hnd:=fun V=>need_fits x.n (by omega) V
 have hym:y∈l:=by rw [hl];simp
 have hlm:=hs.lay.mem hym
 have htop:=hs.lay.top
 have hn3:x.n≤Yat x.n:=by unfold Yat;split <;> omega
 obtain ⟨nd,hnd2⟩:∃ nd,Yat x.n=nd:=⟨_,rfl⟩
 rw [hnd2] at hnd hle hn3 ⊢
 obtain ⟨g,cap,f,M,hst,hk,hPg,hFg,hFM,hmp⟩:=hM0.ex
 obtain ⟨n,hn⟩:∃ n,l.length=n:=⟨_,rfl⟩
 rw [hn] at hst hk
 have hk2:=hk
 rw [hl] at hk2
 obtain ⟨hfi,hin,_⟩:=Ybn hk2 hA y
 have hin':(i:Int)<(n:Int):=by omega
 obtain ⟨ys,hys⟩:∃ ys,y.b.s=ys:=⟨_,rfl⟩
 have hle':¬ ((ys:Int)<(nd:Int)):=by omega
 have hle2:¬ (ys<nd):=by omega
 have HFS:Hid ((f i).b.s=ys):=Lib.hid (by rw [hfi,hys])
 have HST:=Lib.hid hst
 have HM0:=Lib.hid hM0
 have HL:=Lib.hid hl
 have HNS:=Lib.hid (show x.n≤1000000 by omega)
 have HLE:=Lib.hid hle
 have HLN:Hid ((A++y::C).length≤64):=Lib.hid (by rw [← hl];exact hs.lay.few)
 have HYS:=Lib.hid (show y.b.off+y.b.s<1000000000 by omega)
 have HAS:Hid (∀ z∈A++y::C,z.b.s≤4800):=Lib.hid (fun z hz=>by rw [← hl] at hz;have:=hs.lay.mem hz;omega)
 clear hop hres hg0 hM0 h hui hue hin1 hg1 hz hi hi1 hi3 hii hst hk hk2 hmp hn hs hl hym hlm hnd2 hle hn3 hfi hys
 go_enter Tryz.func58,Tryz.ntmps58
 go_wp2
 go_region_law (first
  | (go_simp;go_at_call 38;go_must ((with_reducible refine (how _).mono ?_);rintro e v1 ⟨rfl,rfl⟩))
  | (go_simp;go_at_call 88;go_must ((with_reducible refine hus.mono ?_);rintro e w2 ⟨rfl,hg2⟩;have hGG:=Yaa HG1.out hg2)))
 all_goals
  obtain ⟨_,q1,_,q3,_,_,_,_⟩:=Yal ((hGG.block _ (lt_of_block HOX.out) (by simp)).trans HOX.out)
  have hst2:=HST.out.later hGG
  have e1:=hst2.cells.2.1
  have e2:=(hst2.row.cells hin).2.1
  rw [HFS.out] at e2
  have hfm:=fill_md (by rw [← HL.out];exact HM0.out.later hGG:Md w2 F P all (A++y::C) ns lv) hA HNS.out hu
  clear hst2
  have hlt2:∀ g,F g→g<w2.heap.size:=fun g hg=>Nat.lt_of_lt_of_le (HLT.out g hg) hGG.size
  go_wp2_with (first
   | (go_at_call 89;go_must ((with_reducible refine (hnd _).mono ?_);rintro e w4 ⟨rfl,rfl⟩))
   | (go_at_call 91;go_must ((with_reducible refine hfm.mono ?_);rintro e w4 ⟨rfl,N,h4⟩;have hct:=cut_md (need:=nd) h4.1 (by have:=HLN.out;simp at this ⊢;omega) hA HLE.out HYS.out))
   | (go_at_call 92;go_must ((with_reducible refine hct.mono ?_);rintro e w5 ⟨rfl,h5⟩;have hR5:=MdR.seq h4.2 h5 hlt2;have hmg:=merge_md hR5.1 (by have:=HLN.out;have:=cutK_len (y.filled x.n (some ⟨N,0,none⟩)) nd;simp at *;omega) (cutK_all (x:=y.filled x.n (some ⟨N,0,none⟩)) HLE.out HAS.out rfl)))
   | (go_at_call 40;go_must ((with_reducible refine hmg.mono ?_);rintro e w6 ⟨rfl,h6⟩;have hR6:=MdR.seq hR5.2 h6 hlt2;have hR8:=MdR.first hGG hR6 HLT.out;have hbx3:=Yay hR8.2 HRX.out HNF.out;obtain ⟨y0,y1,y2⟩:=Yaf hbx3;obtain ⟨z0,z1,z2⟩:=Yak hbx3;obtain ⟨_,_,_,r3,_,_,_,_⟩:=Yal (Yay hR8.2 HOX.out HNO.out))))
  have q:=Yaz hbx3 (x':=.int .i64 0) (y':=.int .u64 (x.off:Nat)) (z':=.int .u64 0)
  obtain ⟨k0,k1,k2⟩:=Yaf q
  refine bodyPost_ret (v:=.agg #[.int .i64 0,.int .u64 (x.off:Nat),.int .u64 0]) (by simp [results,Tryz.results58,go_sem,k0,k1,k2]) rfl ?_
  exact ⟨rfl,N,hR8.boxed HG0.out HLW.out (by omega) hbx3 (by decide) (by decide) (by decide) (Yaa (Yac _ _ _ _) (Yaa (Yac _ _ _ _) (Yac _ _ _ _)))⟩
end
end
end Go.Proofs.YtfhiljglfhekdaaGreat
