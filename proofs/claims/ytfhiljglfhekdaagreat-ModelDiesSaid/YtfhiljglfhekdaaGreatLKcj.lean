/-
  Texts of one layer, one behind the other: memory, contracts of the functions, and what follows of them.
  Conditions: as each theorem says.
-/
import Derived.Test.YtfhiljglfhekdaaGreatLKci
import Derived.Maps.Own
import Derived.Carry
set_option linter.unusedVariables false
set_option linter.unusedSimpArgs false
set_option maxRecDepth 100000
namespace Go.Proofs.YtfhiljglfhekdaaGreat
open Go.RowKit
section
section
variable {w w' w1 w2:World} {F:Nat→Prop} {P all k size g:Nat} {ns:List (ByteArray × Nat)} {lv:Nat→Bool} {l:List KB}
def SizesOk (size all:Nat):Prop:=size % 16=0∧3824≤size∧size≤all∧all≤1048576∧all % 8=0
theorem saysN_nil:SaysN (.map []:DataW Unit) []:=⟨rfl,fun s=>rfl,fun s=>rfl⟩
theorem rowF_one {z:KB} (h:w.heap[g]?=some (.cells #[.int .u64 (z.b.off:Nat),.int .u64 (z.b.s:Nat),.bool z.b.u,.int .i64 z.b.o,.int .u64 (z.b.n:Nat),.slice z.a z.m z.c] 53 (0,0))):RowF w g 1 1 (fun _=>z):=by
 refine ⟨⟨_,h,rfl,fun j hj i hi=>?_⟩,Nat.le_refl _,by unfold maxLen;omega⟩
 obtain rfl:j=0:=by omega
 rw [Nat.zero_mul,Nat.zero_add,← Array.getElem?_toList]
 rfl
theorem md_new {z:KB} (hz:z.bare) {W1 W2 W3:World} (e1:w.alloc (.cells #[.int .u64 (z.b.off:Nat),.int .u64 (z.b.s:Nat),.bool z.b.u,.int .i64 z.b.o,.int .u64 (z.b.n:Nat),.slice z.a z.m z.c] 53)=W1) (e2:W1.alloc (.map #[] 0)=W2)
  (e3:W2.alloc (.cells (stC all (.slice (some ⟨w.heap.size,0,none⟩) 1 1) (.map (some (w.heap.size+1))) (fun _=>false)) 91)=W3):Md W3 (fun g=>w.heap.size≤g∧g<W3.heap.size) (w.heap.size+2) all [z] [] (fun _=>false)∧w.grownBy W3 none:=by
 have s1:W1.heap.size=w.heap.size+1:=by rw [← e1];simp
 have s2:W2.heap.size=w.heap.size+2:=by rw [← e2,World.size_alloc,s1]
 have s3:W3.heap.size=w.heap.size+3:=by rw [← e3,World.size_alloc,s2]
 have g1:w.grownBy W1 none:=by rw [← e1];exact World.grownBy_alloc _ _ _
 have g2:W1.grownBy W2 none:=by rw [← e2];exact World.grownBy_alloc _ _ _
 have g3:W2.grownBy W3 none:=by rw [← e3];exact World.grownBy_alloc _ _ _
 have b1:=Yab w (.cells #[.int .u64 (z.b.off:Nat),.int .u64 (z.b.s:Nat),.bool z.b.u,.int .i64 z.b.o,.int .u64 (z.b.n:Nat),.slice z.a z.m z.c] 53)
 rw [e1] at b1
 have b3:=Yab W2 (.cells (stC all (.slice (some ⟨w.heap.size,0,none⟩) 1 1) (.map (some (w.heap.size+1))) (fun _=>false)) 91)
 rw [e3,s2] at b3
 have hr:=((rowF_one b1).later g2).later g3
 have hm:W2.ownsMap Tryz.prog 9 (plainElem Tryz.prog 26) (w.heap.size+1) 0 (.map []:DataW Unit):=by
  rw [← e2,← s1];exact World.ownsMap_made W1 _ _ _
 refine ⟨⟨⟨w.heap.size,1,fun _=>z,w.heap.size+1,⟨b3,hr⟩,rfl,by omega,⟨Nat.le_refl _,by omega⟩,⟨by omega,by omega⟩,_,hm.kept g3 (by simp),saysN_nil⟩,fun y hy=>?_,?_,fun q hq=>?_,fun y hy _=>?_,⟨by omega,by omega⟩,fun q hq=>hq.2⟩,Yaa g1 (Yaa g2 g3)⟩
 ·rw [List.mem_singleton.1 hy]
  obtain ⟨h1,h2,h3,h4⟩:=hz
  unfold kv
  rw [h1,h2,h3,h4]
  exact World.ownsRow_nil _ _ _ _
 ·rw [Yee hz.1];exact List.nodup_nil
 ·rw [Yee hz.1] at hq;cases hq
 ·rw [List.mem_singleton.1 hy];exact hz
set_option maxHeartbeats 2000000 in
theorem mnew_ok (h:SizesOk size all) :
  Calls Tryz.prog 23 #[.int .u64 size,.int .u64 all] w fun e w'=>e=.returned (.pointer (some ⟨w.heap.size+2,0,none⟩))∧Md w' (fun g=>w.heap.size≤g∧g<w'.heap.size) (w.heap.size+2) all [Ya9 3776 (size - 3776)] [] (fun _=>false)∧w.grownBy w' none:=by
 obtain ⟨h1,h2,h3,h4,h5⟩:=h
 have t1:Int.tmod (size:Int) 16=0:=by rw [Int.tmod_eq_emod_of_nonneg (by omega)];omega
 have t2:Int.tmod (all:Int) 8=0:=by rw [Int.tmod_eq_emod_of_nonneg (by omega)];omega
 have u1:¬ ((size:Int)<3824):=by omega
 have u2:¬ ((all:Int)<(size:Int)):=by omega
 have u3:¬ ((1048576:Int)<(all:Int)):=by omega
 have e1:IntKind.u64.wrap ((size:Int) - 3776)=((size - 3776:Nat):Int):=by rw [IntKind.wrap_u64];omega
 have HN:=Lib.hid (md_new (w:=w) (all:=all) (Yeb 3776 (size - 3776)) rfl rfl rfl)
 clear h1 h2 h3 h4 h5
 have hmm:=@run_makeMap Tryz.prog
 go_enter Tryz.func23,Tryz.ntmps23
 go_wp2
 go_ret
 exact ⟨rfl,HN.out⟩
set_option maxHeartbeats 2000000 in
theorem mnew_not (hs:size<18446744073709551616) (ha:all<18446744073709551616) (h:¬ SizesOk size all) :
  Calls Tryz.prog 23 #[.int .u64 size,.int .u64 all] w fun e w'=>e=.returned (.pointer none)∧w=w':=by
 have t1:Int.tmod (size:Int) 16=((size % 16:Nat):Int):=by rw [Int.tmod_eq_emod_of_nonneg (by omega)];omega
 have t2:Int.tmod (all:Int) 8=((all % 8:Nat):Int):=by rw [Int.tmod_eq_emod_of_nonneg (by omega)];omega
 unfold SizesOk at h
 by_cases h1:size % 16=0
 ·rw [h1] at t1
  by_cases h2:(size:Int)<3824
  ·go_enter Tryz.func23,Tryz.ntmps23
   go_wp2
   go_ret
   exact ⟨rfl,rfl⟩
  ·by_cases h3:(all:Int)<(size:Int)
   ·go_enter Tryz.func23,Tryz.ntmps23
    go_wp2
    go_ret
    exact ⟨rfl,rfl⟩
   ·by_cases h4:(1048576:Int)<(all:Int)
    ·go_enter Tryz.func23,Tryz.ntmps23
     go_wp2
     go_ret
     exact ⟨rfl,rfl⟩
    ·have h5:¬ (((all % 8:Nat):Int)=0):=fun h5=>h ⟨h1,by omega,by omega,by omega,by omega⟩
     go_enter Tryz.func23,Tryz.ntmps23
     go_wp2
     go_ret
     exact ⟨rfl,rfl⟩
 ·have h2:¬ (((size % 16:Nat):Int)=0):=by omega
  go_enter Tryz.func23,Tryz.ntmps23
  go_wp2
  go_ret
  exact ⟨rfl,rfl⟩
end
end
section
section
variable {w w' w1 w2:World} {F:Nat→Prop} {P all E c i M k fn:Nat} {ns:List (ByteArray × Nat)} {lv:Nat→Bool} {l A C:List KB} {y:KB} {x:OpM} {T:Nat→Nat→Nat→List KB→List (ByteArray × Nat)→(Nat→Bool)→Prop}
set_option maxHeartbeats 8000000 in
theorem mdo_at (h:Md w F P all l ns lv) (hc:c<8) (h1:1≤k) (h2:k≤15) (hk:x.kind=(k:Int)) (hlv:lv c=true∨k=15)
  (eg:∀ args w,(callFunc fn args).run Tryz.prog w=.ok (.enter fn args) w) (hix:∀ W,(Instr.index 93 (.agg opsL) (.int .i64 (k:Int))).run Tryz.prog W=.ok (.func (.func fn) #[] #[]) W)
  (hf:∀ V,w.grownBy V none→Calls Tryz.prog fn #[.pointer (some ⟨P,0,none⟩),.int .i64 c,.agg (opC x)] V fun e w'=>∃ (ea eb ec:Nat) (l':List KB) (ns':List (ByteArray × Nat)) (lv':Nat→Bool),e=.returned (.agg #[.int .i64 (ea:Nat),.int .u64 (eb:Nat),.int .u64 (ec:Nat)])∧T ea eb ec l' ns' lv'∧MdR V w' F P all l' ns' lv') :
  Calls Tryz.prog 13 #[.pointer (some ⟨P,0,none⟩),.int .i64 c,.agg (opC x)] w fun e w'=>∃ (ea eb ec:Nat) (l':List KB) (ns':List (ByteArray × Nat)) (lv':Nat→Bool),e=.returned (.agg #[.int .i64 (ea:Nat),.int .u64 (eb:Nat),.int .u64 (ec:Nat)])∧T ea eb ec l' ns' lv'∧MdR w w' F P all l' ns' lv':=by
 obtain ⟨hop,hres,hg0⟩:=Ybq (w:=w) x
 obtain ⟨W0,hW0⟩:∃ W0,((w.alloc (.cells (opC x) 41)).alloc (.cells #[.int .i64 0,.int .u64 0,.int .u64 0] 46))=W0:=⟨_,rfl⟩
 rw [hW0] at hop hres hg0
 have hM0:=h.later hg0
 have HNF:Hid (¬ F (w.heap.size+1)):=Lib.hid (fun hF=>by have:=h.lt _ hF;omega)
 have HNO:Hid (¬ F w.heap.size):=Lib.hid (fun hF=>by have:=h.lt _ hF;omega)
 have HLT:Hid (∀ g,F g→g<W0.heap.size):=Lib.hid (fun g hg=>Nat.lt_of_lt_of_le (h.lt g hg) hg0.size)
 have HLW:=Lib.hid h.lt
 have HRX:=Lib.hid hres
 have HOX:=Lib.hid hop
 have HG0:=Lib.hid hg0
 obtain ⟨o0,o1,o2,o3,o4,o5,o6,o7⟩:=Yal hop
 unfold opC at hW0 ⊢
 have hlc:=hM0.live hc
 cases hlb:lv c with
 | true =>
  rw [hlb] at hlc
  clear hlv hlb
  have hc8:(c:Int)<8:=by omega
  have hcl:=fun V=>Yb9 (c:Int) V
  have hcd:decide (0≤(c:Int)∧(c:Int)<8)=true:=by simp;omega
  simp only [hcd] at hcl
  have hops:=fun V=>operations_any V
  unfold opC at hf
  have g1:¬ ((k:Int)<1):=by omega
  have g2:¬ ((15:Int)<(k:Int)):=by omega
  rw [hk] at hf o0
  have HF:=Lib.hid hf
  have n0:W0.drew.cell? ⟨w.heap.size,0,none⟩=some (.int .i64 (k:Int)):=o0
  have n1:W0.drew.cell? ⟨w.heap.size,1,none⟩=some (.int .u64 (x.n:Nat)):=o1
  have n2:W0.drew.cell? ⟨w.heap.size,2,none⟩=some (.int .u64 (x.a:Nat)):=o2
  have n3:W0.drew.cell? ⟨w.heap.size,3,none⟩=some (.int .u64 (x.off:Nat)):=o3
  have n4:W0.drew.cell? ⟨w.heap.size,4,none⟩=some (.int .u64 (x.i:Nat)):=o4
  have n5:W0.drew.cell? ⟨w.heap.size,5,none⟩=some (.int .u64 (x.v:Nat)):=o5
  have n6:W0.drew.cell? ⟨w.heap.size,6,none⟩=some (.int .i64 x.to):=o6
  have n7:W0.drew.cell? ⟨w.heap.size,7,none⟩=some (.string x.name):=o7
  have HW0:Hid (w.grownBy W0.drew none):=Lib.hid (Yah HG0.out)
  clear hop hres hg0 hM0 h hk hf h1 h2
  go_enter Tryz.func13,Tryz.ntmps13
  go_wp2_with (go_at_call 32;go_must ((with_reducible refine (hcl _).mono ?_);rintro e w3 ⟨rfl,rfl⟩))
  go_region_law (first
   | (go_simp;go_at_call 34;go_must ((with_reducible refine (hops _).mono ?_);rintro e w1 ⟨rfl,hg1⟩;have hGw:=Yaa HW0.out hg1;have m0:=hg1.cell n0 (by simp);have m1:=hg1.cell n1 (by simp);have m2:=hg1.cell n2 (by simp);have m3:=hg1.cell n3 (by simp);have m4:=hg1.cell n4 (by simp);have m5:=hg1.cell n5 (by simp);have m6:=hg1.cell n6 (by simp);have m7:=hg1.cell n7 (by simp)))
   | (go_simp;go_at_fn fn;go_must ((with_reducible refine (HF.out _ hGw).mono ?_);rintro e w3 ⟨ea,eb,ec,l',ns',lv',rfl,hT,h3⟩;have hR8:=MdR.first hGw h3 HLW.out;have hbx3:=Yay h3.2 ((hg1.block _ (lt_of_block (show W0.drew.heap[w.heap.size+1]?=_ from HRX.out)) (by simp)).trans HRX.out) HNF.out;obtain ⟨y0,y1,y2⟩:=Yaf hbx3;obtain ⟨z0,z1,z2⟩:=Yak hbx3)))
  all_goals
   go_wp2
   have q:=Yaz hbx3 (x':=.int .i64 (ea:Nat)) (y':=.int .u64 (eb:Nat)) (z':=.int .u64 (ec:Nat))
   obtain ⟨k0,k1,k2⟩:=Yaf q
   refine bodyPost_ret (v:=.agg #[.int .i64 (ea:Nat),.int .u64 (eb:Nat),.int .u64 (ec:Nat)]) (by simp [results,Tryz.results13,go_sem,k0,k1,k2]) rfl ?_
   exact ⟨ea,eb,ec,l',ns',lv',rfl,hT,hR8.boxed (Yag w none) HLW.out (by omega) hbx3 (by decide) (by decide) (by decide) (Yaa (Yac _ _ _ _) (Yaa (Yac _ _ _ _) (Yac _ _ _ _)))⟩
 | false =>
  rw [hlb] at hlc hlv
  obtain rfl:k=15:=by rcases hlv with h|h;cases h;exact h
  replace hix:∀ W,(Instr.index 93 (.agg opsL) (.int .i64 15)).run Tryz.prog W=.ok (.func (.func fn) #[] #[]) W:=hix
  replace hk:x.kind=15:=hk
  clear hlv hlb
  have hc8:(c:Int)<8:=by omega
  have hcl:=fun V=>Yb9 (c:Int) V
  have hcd:decide (0≤(c:Int)∧(c:Int)<8)=true:=by simp;omega
  simp only [hcd] at hcl
  have hops:=fun V=>operations_any V
  unfold opC at hf
  have g1:¬ (15<1):=by omega
  have g2:¬ ((15:Int)<15):=by omega
  rw [hk] at hf o0
  have HF:=Lib.hid hf
  have n0:W0.drew.cell? ⟨w.heap.size,0,none⟩=some (.int .i64 15):=o0
  have n1:W0.drew.cell? ⟨w.heap.size,1,none⟩=some (.int .u64 (x.n:Nat)):=o1
  have n2:W0.drew.cell? ⟨w.heap.size,2,none⟩=some (.int .u64 (x.a:Nat)):=o2
  have n3:W0.drew.cell? ⟨w.heap.size,3,none⟩=some (.int .u64 (x.off:Nat)):=o3
  have n4:W0.drew.cell? ⟨w.heap.size,4,none⟩=some (.int .u64 (x.i:Nat)):=o4
  have n5:W0.drew.cell? ⟨w.heap.size,5,none⟩=some (.int .u64 (x.v:Nat)):=o5
  have n6:W0.drew.cell? ⟨w.heap.size,6,none⟩=some (.int .i64 x.to):=o6
  have n7:W0.drew.cell? ⟨w.heap.size,7,none⟩=some (.string x.name):=o7
  have HW0:Hid (w.grownBy W0.drew none):=Lib.hid (Yah HG0.out)
  clear hop hres hg0 hM0 h hk hf h1 h2
  go_enter Tryz.func13,Tryz.ntmps13
  go_wp2_with (go_at_call 32;go_must ((with_reducible refine (hcl _).mono ?_);rintro e w3 ⟨rfl,rfl⟩))
  go_region_law (first
   | (go_simp;go_at_call 34;go_must ((with_reducible refine (hops _).mono ?_);rintro e w1 ⟨rfl,hg1⟩;have hGw:=Yaa HW0.out hg1;have m0:=hg1.cell n0 (by simp);have m1:=hg1.cell n1 (by simp);have m2:=hg1.cell n2 (by simp);have m3:=hg1.cell n3 (by simp);have m4:=hg1.cell n4 (by simp);have m5:=hg1.cell n5 (by simp);have m6:=hg1.cell n6 (by simp);have m7:=hg1.cell n7 (by simp)))
   | (go_simp;go_at_fn fn;go_must ((with_reducible refine (HF.out _ hGw).mono ?_);rintro e w3 ⟨ea,eb,ec,l',ns',lv',rfl,hT,h3⟩;have hR8:=MdR.first hGw h3 HLW.out;have hbx3:=Yay h3.2 ((hg1.block _ (lt_of_block (show W0.drew.heap[w.heap.size+1]?=_ from HRX.out)) (by simp)).trans HRX.out) HNF.out;obtain ⟨y0,y1,y2⟩:=Yaf hbx3;obtain ⟨z0,z1,z2⟩:=Yak hbx3)))
  all_goals
   go_wp2
   have q:=Yaz hbx3 (x':=.int .i64 (ea:Nat)) (y':=.int .u64 (eb:Nat)) (z':=.int .u64 (ec:Nat))
   obtain ⟨k0,k1,k2⟩:=Yaf q
   refine bodyPost_ret (v:=.agg #[.int .i64 (ea:Nat),.int .u64 (eb:Nat),.int .u64 (ec:Nat)]) (by simp [results,Tryz.results13,go_sem,k0,k1,k2]) rfl ?_
   exact ⟨ea,eb,ec,l',ns',lv',rfl,hT,hR8.boxed (Yag w none) HLW.out (by omega) hbx3 (by decide) (by decide) (by decide) (Yaa (Yac _ _ _ _) (Yaa (Yac _ _ _ _) (Yac _ _ _ _)))⟩
set_option maxHeartbeats 2000000 in
theorem mdo_client (h:Md w F P all l ns lv) (hc:c<8) (hk:1≤x.kind∧x.kind<15) (hlv:lv c=false) :
  Calls Tryz.prog 13 #[.pointer (some ⟨P,0,none⟩),.int .i64 c,.agg (opC x)] w fun e w'=>e=.returned (.agg #[.int .i64 10,.int .u64 0,.int .u64 0])∧w.grownBy w' none:=by
 obtain ⟨hop,hres,hg0⟩:=Ybq (w:=w) x
 obtain ⟨W0,hW0⟩:∃ W0,((w.alloc (.cells (opC x) 41)).alloc (.cells #[.int .i64 0,.int .u64 0,.int .u64 0] 46))=W0:=⟨_,rfl⟩
 rw [hW0] at hop hres hg0
 have hM0:=h.later hg0
 have HNF:Hid (¬ F (w.heap.size+1)):=Lib.hid (fun hF=>by have:=h.lt _ hF;omega)
 have HNO:Hid (¬ F w.heap.size):=Lib.hid (fun hF=>by have:=h.lt _ hF;omega)
 have HLT:Hid (∀ g,F g→g<W0.heap.size):=Lib.hid (fun g hg=>Nat.lt_of_lt_of_le (h.lt g hg) hg0.size)
 have HLW:=Lib.hid h.lt
 have HRX:=Lib.hid hres
 have HOX:=Lib.hid hop
 have HG0:=Lib.hid hg0
 obtain ⟨o0,o1,o2,o3,o4,o5,o6,o7⟩:=Yal hop
 unfold opC at hW0 ⊢
 have hlc:=hM0.live hc
 rw [hlv] at hlc
 have hc8:(c:Int)<8:=by omega
 have hcl:=fun V=>Yb9 (c:Int) V
 have hcd:decide (0≤(c:Int)∧(c:Int)<8)=true:=by simp;omega
 simp only [hcd] at hcl
 have g1:¬ (x.kind<1):=by omega
 have g2:¬ (15<x.kind):=by omega
 have g3:¬ (x.kind=15):=by omega
 have hfl:=fun V=>Ya6 10 V
 clear hop hres hg0 hM0 h hk
 go_enter Tryz.func13,Tryz.ntmps13
 go_wp2_with (first
  | (go_at_call 32;go_must ((with_reducible refine (hcl _).mono ?_);rintro e w3 ⟨rfl,rfl⟩))
  | (go_at_call 33;go_must ((with_reducible refine (hfl _).mono ?_);rintro e w4 ⟨rfl,hGG⟩;have hbx3:=(hGG.block _ (lt_of_block HRX.out) (by simp)).trans HRX.out;obtain ⟨y0,y1,y2⟩:=Yaf hbx3;obtain ⟨z0,z1,z2⟩:=Yak hbx3)))
 have q:=Yaz hbx3 (x':=.int .i64 10) (y':=.int .u64 0) (z':=.int .u64 0)
 obtain ⟨k0,k1,k2⟩:=Yaf q
 refine bodyPost_ret (v:=.agg #[.int .i64 10,.int .u64 0,.int .u64 0]) (by simp [results,Tryz.results13,go_sem,k0,k1,k2]) rfl ?_
 exact ⟨rfl,Yap (Yaa (Yam (Yaa HG0.out hGG) (some (w.heap.size+1))) (Yaa (Yac _ _ _ _) (Yaa (Yac _ _ _ _) (Yac _ _ _ _)))) (by omega)⟩
theorem ops_1 (W:World):(Instr.index 93 (.agg opsL) (.int .i64 1)).run Tryz.prog W=.ok (.func (.func 55) #[] #[]) W:=by kernel_rfl
theorem ops_2 (W:World):(Instr.index 93 (.agg opsL) (.int .i64 2)).run Tryz.prog W=.ok (.func (.func 56) #[] #[]) W:=by kernel_rfl
theorem ops_3 (W:World):(Instr.index 93 (.agg opsL) (.int .i64 3)).run Tryz.prog W=.ok (.func (.func 57) #[] #[]) W:=by kernel_rfl
theorem ops_4 (W:World):(Instr.index 93 (.agg opsL) (.int .i64 4)).run Tryz.prog W=.ok (.func (.func 58) #[] #[]) W:=by kernel_rfl
theorem ops_5 (W:World):(Instr.index 93 (.agg opsL) (.int .i64 5)).run Tryz.prog W=.ok (.func (.func 59) #[] #[]) W:=by kernel_rfl
theorem ops_6 (W:World):(Instr.index 93 (.agg opsL) (.int .i64 6)).run Tryz.prog W=.ok (.func (.func 60) #[] #[]) W:=by kernel_rfl
theorem ops_7 (W:World):(Instr.index 93 (.agg opsL) (.int .i64 7)).run Tryz.prog W=.ok (.func (.func 61) #[] #[]) W:=by kernel_rfl
theorem ops_8 (W:World):(Instr.index 93 (.agg opsL) (.int .i64 8)).run Tryz.prog W=.ok (.func (.func 62) #[] #[]) W:=by kernel_rfl
theorem ops_9 (W:World):(Instr.index 93 (.agg opsL) (.int .i64 9)).run Tryz.prog W=.ok (.func (.func 63) #[] #[]) W:=by kernel_rfl
theorem ops_10 (W:World):(Instr.index 93 (.agg opsL) (.int .i64 10)).run Tryz.prog W=.ok (.func (.func 64) #[] #[]) W:=by kernel_rfl
theorem ops_11 (W:World):(Instr.index 93 (.agg opsL) (.int .i64 11)).run Tryz.prog W=.ok (.func (.func 65) #[] #[]) W:=by kernel_rfl
theorem ops_12 (W:World):(Instr.index 93 (.agg opsL) (.int .i64 12)).run Tryz.prog W=.ok (.func (.func 66) #[] #[]) W:=by kernel_rfl
theorem ops_13 (W:World):(Instr.index 93 (.agg opsL) (.int .i64 13)).run Tryz.prog W=.ok (.func (.func 67) #[] #[]) W:=by kernel_rfl
theorem ops_14 (W:World):(Instr.index 93 (.agg opsL) (.int .i64 14)).run Tryz.prog W=.ok (.func (.func 68) #[] #[]) W:=by kernel_rfl
theorem ops_15 (W:World):(Instr.index 93 (.agg opsL) (.int .i64 15)).run Tryz.prog W=.ok (.func (.func 69) #[] #[]) W:=by kernel_rfl
end
end
section
def Yev (c:Nat) (z:KB):KB:=if z.b.o=(c:Int)+1 then z.free else z
def fK (c:Nat) (f:Nat→KB) (k:Nat):Nat→KB:=fun j=>if j<k then Yev c (f j) else f j
theorem fK_zero (c:Nat) (f:Nat→KB):fK c f 0=f:=by funext j;unfold fK;rw [if_neg (Nat.not_lt_zero _)]
theorem fK_at (c:Nat) (f:Nat→KB) (k:Nat):fK c f k k=f k:=by unfold fK;rw [if_neg (Nat.lt_irrefl _)]
theorem fK_yes {c k:Nat} {f:Nat→KB} (h:(f k).b.o=(c:Int)+1):updK (fK c f k) k (f k).free=fK c f (k+1):=by
 funext j
 by_cases e:j=k
 ·subst e
  rw [Yby]
  unfold fK Yev
  rw [if_pos (by omega),if_pos h]
 ·rw [Ydu e]
  unfold fK
  by_cases h1:j<k
  ·rw [if_pos h1,if_pos (by omega)]
  ·rw [if_neg h1,if_neg (by omega)]
theorem fK_no {c k:Nat} {f:Nat→KB} (h:¬ (f k).b.o=(c:Int)+1):fK c f k=fK c f (k+1):=by
 funext j
 unfold fK
 by_cases e:j=k
 ·subst e
  rw [if_neg (by omega),if_pos (by omega)]
  unfold Yev
  rw [if_neg h]
 ·by_cases h1:j<k
  ·rw [if_pos h1,if_pos (by omega)]
  ·rw [if_neg h1,if_neg (by omega)]
theorem fK_list (c:Nat) (f:Nat→KB) (n:Nat):Ycb (fK c f n) n=(Ycb f n).map (Yev c):=by
 unfold Ycb
 rw [List.map_map]
 refine List.map_congr_left fun j hj=>?_
 have:=List.mem_range.1 hj
 unfold fK
 rw [if_pos this]
 rfl
theorem dats_kill (c:Nat):∀ l:List KB,(dats (l.map (Yev c))).Sublist (dats l)
 | []=>List.Sublist.refl _
 | z::r=>by
  rw [List.map_cons,Ycg (Yev c z),Ycg z r]
  refine List.Sublist.append ?_ (dats_kill c r)
  unfold Yev
  split
  ·rw [Yee (Yey z).1];exact List.nil_sublist _
  ·exact List.Sublist.refl _
section
variable {w w' w1 w2:World} {F:Nat→Prop} {P all c k n g cap:Nat} {f:Nat→KB} {mv:Value} {ns:List (ByteArray × Nat)} {lv:Nat→Bool} {l:List KB}
set_option maxHeartbeats 4000000 in
theorem mkill_ok (h:Md w F P all l ns lv) (hn:l.length≤1000) (hS:∀ z∈l,z.b.s≤10000000) (hc:c<8) :
  Calls Tryz.prog 17 #[.pointer (some ⟨P,0,none⟩),.int .i64 c] w fun e w'=>e=.returned (.tuple #[])∧MdR w w' F P all (jnL (l.map (Yev c))) ns (oth lv c false):=by
 have hcl:=fun V=>Yb9 (c:Int) V
 have hcd:decide (0≤(c:Int)∧(c:Int)<8)=true:=by simp;omega
 simp only [hcd] at hcl
 have hc8:(c:Int)<8:=by omega
 have how:=fun V=>Ybg hc V
 obtain ⟨hR,hfz⟩:=h.relive hc false
 have hlc:=h.live hc
 obtain ⟨W5,hW5⟩:∃ W5,w.setCell ⟨P,3+c,none⟩ (.bool false)=W5:=⟨_,rfl⟩
 rw [hW5] at hR
 have hM5:=hR.1
 obtain ⟨g,cap,f,M,hst,hk,hPg,hFg,hFM,hmp⟩:=hM5.ex
 obtain ⟨n,hnl⟩:∃ n,l.length=n:=⟨_,rfl⟩
 rw [hnl] at hst hk hn
 have d1:=hst.cells.2.1
 have HM5:=Lib.hid hM5
 have HT5:=Lib.hid hR.2
 have HST:=Lib.hid hst
 have HK:=Lib.hid hk
 have HNL:=Lib.hid hnl
 have HS:=Lib.hid hS
 have HLT:=Lib.hid h.lt
 have HX:=Lib.hid (And.intro hFg (And.intro hFM hmp))
 clear h hR hM5 hst hk hnl hS hFg hFM hmp
 go_enter Tryz.func17,Tryz.ntmps17
 go_wp2_with (go_at_call 32;go_must ((with_reducible refine (hcl _).mono ?_);rintro e w3 ⟨rfl,rfl⟩))
 go_loopw [23] (fun vk wr=>∃ k:Nat,k≤n∧vk=.int .i64 k∧StB wr P g cap n all (fK c f k) (.map (some M)) (oth lv c false)∧W5.grownBy wr (some g)) (fun vk _=>n - (intOf vk).toNat)
 case atStart=>exact ⟨0,Nat.zero_le _,rfl,by rw [fK_zero];exact HST.out,Yam (Yag _ _) _⟩
 case round =>
  obtain ⟨k,hk,rfl,hst,hg⟩:=hrel
  by_cases h1:k<n
  ·have h1':(k:Int)<(n:Int):=by omega
   obtain ⟨c0,c1,c2,c3,c4,c5⟩:=hst.row.cells h1
   rw [fK_at] at c0 c1 c2 c3 c4 c5
   obtain ⟨x,hx⟩:∃ x,f k=x:=⟨_,rfl⟩
   rw [hx] at c0 c1 c2 c3 c4 c5
   have HXK:=Lib.hid hx
   clear hx
   obtain ⟨⟨x0,x1,x2,x3,x4⟩,xa,xm,xc,xd⟩:=x
   simp only at c0 c1 c2 c3 c4 c5
   have hob:=Yab wr (.cells #[.int .u64 (x0:Nat),.int .u64 (x1:Nat),.bool x2,.int .i64 x3,.int .u64 (x4:Nat),.slice xa xm xc] 53)
   have hga:=World.grownBy_alloc wr (.cells #[.int .u64 (x0:Nat),.int .u64 (x1:Nat),.bool x2,.int .i64 x3,.int .u64 (x4:Nat),.slice xa xm xc] 53) none
   obtain ⟨W1,hW1⟩:∃ W1,wr.alloc (.cells #[.int .u64 (x0:Nat),.int .u64 (x1:Nat),.bool x2,.int .i64 x3,.int .u64 (x4:Nat),.slice xa xm xc] 53)=W1:=⟨_,rfl⟩
   rw [hW1] at hob hga
   obtain ⟨b0,b1,b2,b3,b4,b5⟩:=Ya5 hob
   have b3':W1.drew.cell? ⟨wr.heap.size,3,none⟩=some (.int .i64 x3):=b3
   have HOB:=Lib.hid hob
   have HST1:=Lib.hid hst
   have HGA:=Lib.hid hga
   have HGR:=Lib.hid hg
   clear hst hob hga hg
   by_cases ho:x3=(c:Int)+1
   ·have hoe:(x3 == (c:Int)+1)=true:=by simpa using ho
    have HO:=Lib.hid ho
    clear ho
    go_wp2
    go_region_law (go_simp;go_at_call 38;go_must ((with_reducible refine (how _).mono ?_);rintro e w1 ⟨rfl,rfl⟩))
    all_goals
     go_wp2
     have hcell:∀ V:World,W1.grownBy V none→V.cell? ⟨P,1,none⟩=some (.slice (some ⟨g,0,none⟩) n cap)∧V.heap[wr.heap.size]?=some (.cells #[.int .u64 (x0:Nat),.int .u64 (x1:Nat),.bool x2,.int .i64 x3,.int .u64 (x4:Nat),.slice xa xm xc] 53 (0,0)):=fun V hV=>⟨(HST1.out.later (Yaa HGA.out hV)).cells.2.1,(hV.block _ (lt_of_block HOB.out) (by simp)).trans HOB.out⟩
     have HG:W1.grownBy W1.drew.drew none:=Yah (Yah (Yag _ _))
     obtain ⟨p1,pb⟩:=hcell _ HG
     obtain ⟨q0,q1,q2,q3,q4,q5⟩:=Ya5 pb
     have hsp:=fun V=>spare_any ⟨⟨x0,x1,x2,x3,x4⟩,xa,xm,xc,xd⟩ V
     simp only at hsp
     go_region_law (first|(go_simp;go_at_call 39;go_must ((with_reducible refine (hsp _).mono ?_);rintro e w2 ⟨rfl,hg2⟩;have HGG:=Yaa HG hg2;obtain ⟨r1,rb⟩:=hcell _ HGG;have hF:=HST1.out.row.later (Yaa HGA.out HGG);have f0:=hF.frz (k*6);have f1:=hF.frz (k*6+1);have f2:=hF.frz (k*6+2);have f3:=hF.frz (k*6+3);have f4:=hF.frz (k*6+4);have f5:=hF.frz (k*6+5);obtain ⟨v0,v1,v2,v3,v4,v5⟩:=hF.cells h1)))
     all_goals
      have hrow:=hF.put h1 (KB.free ⟨⟨x0,x1,x2,x3,x4⟩,xa,xm,xc,xd⟩)
      have hg6:=put6_grown w2 g k (.int .u64 (x0:Nat)) (.int .u64 (x1:Nat)) (.bool false) (.int .i64 0) (.int .u64 0) (.slice none 0 0)
      unfold KB.free Ya4 at hrow
      simp only at hrow
      replace hrow:RowF ((((((w2.setCell ⟨g,k*6,none⟩ (.int .u64 (x0:Nat))).setCell ⟨g,k*6+1,none⟩ (.int .u64 (x1:Nat))).setCell ⟨g,k*6+2,none⟩ (.bool false)).setCell ⟨g,k*6+3,none⟩ (.int .i64 0)).setCell ⟨g,k*6+4,none⟩ (.int .u64 0)).setCell ⟨g,k*6+5,none⟩ (.slice none 0 0)) g cap n (updK (fK c f k) k (KB.free ⟨⟨x0,x1,x2,x3,x4⟩,xa,xm,xc,xd⟩)):=hrow
      obtain ⟨W6,hW6⟩:∃ W6,((((((w2.setCell ⟨g,k*6,none⟩ (.int .u64 (x0:Nat))).setCell ⟨g,k*6+1,none⟩ (.int .u64 (x1:Nat))).setCell ⟨g,k*6+2,none⟩ (.bool false)).setCell ⟨g,k*6+3,none⟩ (.int .i64 0)).setCell ⟨g,k*6+4,none⟩ (.int .u64 0)).setCell ⟨g,k*6+5,none⟩ (.slice none 0 0))=W6:=⟨_,rfl⟩
      rw [hW6] at hrow hg6 ⊢
      have hst6:=(HST1.out.later (Yaa HGA.out HGG)).turn hrow hg6 hPg
      have HG6:=Lib.hid (Yaa HGR.out (Yaa (Yam (Yaa HGA.out HGG) (some g)) hg6))
      have heq:updK (fK c f k) k (KB.free ⟨⟨x0,x1,x2,x3,x4⟩,xa,xm,xc,xd⟩)=fK c f (k+1):=by rw [← HXK.out];exact fK_yes (by rw [HXK.out];exact HO.out)
      rw [heq] at hst6
      clear hW6 hrow hg6 hF f0 f1 f2 f3 f4 f5 v0 v1 v2 v3 v4 v5 q0 q1 q2 q3 q4 q5 pb rb p1 r1 heq
      go_wp2
      go_roundw
      case rel=>exact ⟨k+1,by omega,by go_num,hst6,HG6.out⟩
      case measure=>simp [intOf];omega
   ·have hoe:(x3 == (c:Int)+1)=false:=by simpa using ho
    have HO:=Lib.hid ho
    clear ho
    go_wp2
    go_region_law (go_simp;go_at_call 38;go_must ((with_reducible refine (how _).mono ?_);rintro e w1 ⟨rfl,rfl⟩))
    all_goals
     go_wp2
     go_roundw
     case rel=>exact ⟨k+1,by omega,by go_num,by rw [← fK_no (by rw [HXK.out];exact HO.out)];exact HST1.out.later (Yaa HGA.out (Ybl _ _)),Yaa HGR.out (Yam (Yaa HGA.out (Ybl _ _)) _)⟩
     case measure=>simp [intOf];omega
  ·obtain rfl:k=n:=by omega
   have hl:(l.map (Yev c)).length=k:=by rw [List.length_map,HNL.out]
   have hkk:Ycb (fK c f k) (l.map (Yev c)).length=l.map (Yev c):=by rw [hl,fK_list,HK.out]
   have hst':StB wr P g cap (l.map (Yev c)).length all (fK c f k) (.map (some M)) (oth lv c false):=by rw [hl];exact hst
   have hMd:MdR W5 wr (growF F w W5) P all (l.map (Yev c)) ns (oth lv c false):=by
    have hs0:=HST.out
    rw [← HNL.out] at hs0
    refine HM5.out.turn hs0 HX.out.1 HX.out.2.1 HX.out.2.2 hst' hkk (Ybm hg (p:=fun i=>i=P∨i=g) (fun i h=>.inr (by injection h with h;exact h.symm))) hPg (.inl rfl) (HM5.out.nod.sublist (dats_kill c l)) (fun q hq=>(dats_kill c l).subset hq) (fun y hy=>?_) (fun y hy hu=>?_)
    ·obtain ⟨z,hz,rfl⟩:=List.mem_map.1 hy
     unfold Yev
     split
     ·exact .inl (Yey z)
     ·exact .inr ⟨z,hz,rfl,rfl⟩
    ·obtain ⟨z,hz,rfl⟩:=List.mem_map.1 hy
     unfold Yev at hu ⊢
     split
     ·exact Yey z
     ·rename_i h2
      rw [if_neg h2] at hu
      exact HM5.out.free z hz hu
   have hR:=MdR.seq HT5.out hMd HLT.out
   have hmg:=merge_md hR.1 (by rw [hl];omega) (fun z hz=>by
    obtain ⟨y,hy,rfl⟩:=List.mem_map.1 hz
    have:=HS.out y hy
    unfold Yev
    split
    ·exact this
    ·exact this)
   have HR:=Lib.hid hR
   clear hMd hR hst hst' hkk hl
   go_wp2_with (go_at_call 40;go_must ((with_reducible refine hmg.mono ?_);rintro e w8 ⟨rfl,h8⟩))
   go_end0
   exact ⟨rfl,MdR.seq HR.out.2 h8 HLT.out⟩
end
end
section
section
variable {w w' w1 w2:World} {F:Nat→Prop} {P all E i M k:Nat} {c:Int} {ns:List (ByteArray × Nat)} {lv:Nat→Bool} {l A C:List KB} {y:KB} {x:OpM}
theorem size_nil (w:World):Calls Tryz.prog 22 #[.pointer none] w fun e w'=>e=.returned (.int .u64 0)∧w=w':=by
 go_enter Tryz.func22,Tryz.ntmps22
 go_wp2
 go_ret
 exact ⟨rfl,rfl⟩
theorem live_nil (w:World):Calls Tryz.prog 21 #[.pointer none] w fun e w'=>e=.returned (.slice none 0 0)∧w=w':=by
 go_enter Tryz.func21,Tryz.ntmps21
 go_wp2
 go_ret
 exact ⟨rfl,rfl⟩
theorem blocks_nil (w:World):Calls Tryz.prog 15 #[.pointer none] w fun e w'=>e=.returned (.slice none 0 0)∧w=w':=by
 go_enter Tryz.func15,Tryz.ntmps15
 go_wp2
 go_ret
 exact ⟨rfl,rfl⟩
theorem entries_nil (w:World):Calls Tryz.prog 20 #[.pointer none] w fun e w'=>e=.returned (.slice none 0 0)∧w=w':=by
 go_enter Tryz.func20,Tryz.ntmps20
 go_wp2
 go_ret
 exact ⟨rfl,rfl⟩
theorem kill_nil (c:Int) (w:World):Calls Tryz.prog 17 #[.pointer none,.int .i64 c] w fun e w'=>e=.returned (.tuple #[])∧w=w':=by
 go_enter Tryz.func17,Tryz.ntmps17
 go_wp2
 refine bodyPost_ret (v:=.tuple #[]) (by simp [results,Tryz.results17,go_sem]) rfl ?_
 exact ⟨rfl,rfl⟩
theorem kill_not (P:Nat) {c:Int} (hc:¬ (0≤c∧c<8)) (w:World):Calls Tryz.prog 17 #[.pointer (some ⟨P,0,none⟩),.int .i64 c] w fun e w'=>e=.returned (.tuple #[])∧w=w':=by
 have hcl:=fun V=>Yb9 c V
 have hcd:decide (0≤c∧c<8)=false:=decide_eq_false hc
 simp only [hcd] at hcl
 clear hcd hc
 go_enter Tryz.func17,Tryz.ntmps17
 go_wp2_with (go_at_call 32;go_must ((with_reducible refine (hcl _).mono ?_);rintro e w3 ⟨rfl,rfl⟩))
 refine bodyPost_ret (v:=.tuple #[]) (by simp [results,Tryz.results17,go_sem]) rfl ?_
 exact ⟨rfl,rfl⟩
set_option maxHeartbeats 2000000 in
theorem mdo_nil  :
  Calls Tryz.prog 13 #[.pointer none,.int .i64 c,.agg (opC x)] w fun e w'=>e=.returned (.agg #[.int .i64 1,.int .u64 0,.int .u64 0])∧w.grownBy w' none:=by
 obtain ⟨hop,hres,hg0⟩:=Ybq (w:=w) x
 obtain ⟨W0,hW0⟩:∃ W0,((w.alloc (.cells (opC x) 41)).alloc (.cells #[.int .i64 0,.int .u64 0,.int .u64 0] 46))=W0:=⟨_,rfl⟩
 rw [hW0] at hop hres hg0
 have HRX:=Lib.hid hres
 have HOX:=Lib.hid hop
 have HG0:=Lib.hid hg0
 obtain ⟨o0,o1,o2,o3,o4,o5,o6,o7⟩:=Yal hop
 unfold opC at hW0 ⊢
 have hfl:=fun V=>Ya6 1 V
 clear hop hres hg0
 go_enter Tryz.func13,Tryz.ntmps13
 go_wp2_with (first
  | (go_at_call 33;go_must ((with_reducible refine (hfl _).mono ?_);rintro e w4 ⟨rfl,hGG⟩;have hbx3:=(hGG.block _ (lt_of_block HRX.out) (by simp)).trans HRX.out;obtain ⟨y0,y1,y2⟩:=Yaf hbx3;obtain ⟨z0,z1,z2⟩:=Yak hbx3)))
 have q:=Yaz hbx3 (x':=.int .i64 1) (y':=.int .u64 0) (z':=.int .u64 0)
 obtain ⟨k0,k1,k2⟩:=Yaf q
 refine bodyPost_ret (v:=.agg #[.int .i64 1,.int .u64 0,.int .u64 0]) (by simp [results,Tryz.results13,go_sem,k0,k1,k2]) rfl ?_
 exact ⟨rfl,Yap (Yaa (Yam (Yaa HG0.out hGG) (some (w.heap.size+1))) (Yaa (Yac _ _ _ _) (Yaa (Yac _ _ _ _) (Yac _ _ _ _)))) (by omega)⟩
set_option maxHeartbeats 2000000 in
theorem mdo_low (hk:x.kind<1) :
  Calls Tryz.prog 13 #[.pointer (some ⟨P,0,none⟩),.int .i64 c,.agg (opC x)] w fun e w'=>e=.returned (.agg #[.int .i64 1,.int .u64 0,.int .u64 0])∧w.grownBy w' none:=by
 obtain ⟨hop,hres,hg0⟩:=Ybq (w:=w) x
 obtain ⟨W0,hW0⟩:∃ W0,((w.alloc (.cells (opC x) 41)).alloc (.cells #[.int .i64 0,.int .u64 0,.int .u64 0] 46))=W0:=⟨_,rfl⟩
 rw [hW0] at hop hres hg0
 have HRX:=Lib.hid hres
 have HOX:=Lib.hid hop
 have HG0:=Lib.hid hg0
 obtain ⟨o0,o1,o2,o3,o4,o5,o6,o7⟩:=Yal hop
 unfold opC at hW0 ⊢
 have hfl:=fun V=>Ya6 1 V
 clear hop hres hg0
 go_enter Tryz.func13,Tryz.ntmps13
 go_wp2_with (first
  | (go_at_call 33;go_must ((with_reducible refine (hfl _).mono ?_);rintro e w4 ⟨rfl,hGG⟩;have hbx3:=(hGG.block _ (lt_of_block HRX.out) (by simp)).trans HRX.out;obtain ⟨y0,y1,y2⟩:=Yaf hbx3;obtain ⟨z0,z1,z2⟩:=Yak hbx3)))
 have q:=Yaz hbx3 (x':=.int .i64 1) (y':=.int .u64 0) (z':=.int .u64 0)
 obtain ⟨k0,k1,k2⟩:=Yaf q
 refine bodyPost_ret (v:=.agg #[.int .i64 1,.int .u64 0,.int .u64 0]) (by simp [results,Tryz.results13,go_sem,k0,k1,k2]) rfl ?_
 exact ⟨rfl,Yap (Yaa (Yam (Yaa HG0.out hGG) (some (w.heap.size+1))) (Yaa (Yac _ _ _ _) (Yaa (Yac _ _ _ _) (Yac _ _ _ _)))) (by omega)⟩
set_option maxHeartbeats 2000000 in
theorem mdo_high (hk:15<x.kind) :
  Calls Tryz.prog 13 #[.pointer (some ⟨P,0,none⟩),.int .i64 c,.agg (opC x)] w fun e w'=>e=.returned (.agg #[.int .i64 1,.int .u64 0,.int .u64 0])∧w.grownBy w' none:=by
 obtain ⟨hop,hres,hg0⟩:=Ybq (w:=w) x
 obtain ⟨W0,hW0⟩:∃ W0,((w.alloc (.cells (opC x) 41)).alloc (.cells #[.int .i64 0,.int .u64 0,.int .u64 0] 46))=W0:=⟨_,rfl⟩
 rw [hW0] at hop hres hg0
 have HRX:=Lib.hid hres
 have HOX:=Lib.hid hop
 have HG0:=Lib.hid hg0
 obtain ⟨o0,o1,o2,o3,o4,o5,o6,o7⟩:=Yal hop
 unfold opC at hW0 ⊢
 have hfl:=fun V=>Ya6 1 V
 have hk2:¬ (x.kind<1):=by omega
 clear hop hres hg0
 go_enter Tryz.func13,Tryz.ntmps13
 go_wp2_with (first
  | (go_at_call 33;go_must ((with_reducible refine (hfl _).mono ?_);rintro e w4 ⟨rfl,hGG⟩;have hbx3:=(hGG.block _ (lt_of_block HRX.out) (by simp)).trans HRX.out;obtain ⟨y0,y1,y2⟩:=Yaf hbx3;obtain ⟨z0,z1,z2⟩:=Yak hbx3)))
 have q:=Yaz hbx3 (x':=.int .i64 1) (y':=.int .u64 0) (z':=.int .u64 0)
 obtain ⟨k0,k1,k2⟩:=Yaf q
 refine bodyPost_ret (v:=.agg #[.int .i64 1,.int .u64 0,.int .u64 0]) (by simp [results,Tryz.results13,go_sem,k0,k1,k2]) rfl ?_
 exact ⟨rfl,Yap (Yaa (Yam (Yaa HG0.out hGG) (some (w.heap.size+1))) (Yaa (Yac _ _ _ _) (Yaa (Yac _ _ _ _) (Yac _ _ _ _)))) (by omega)⟩
set_option maxHeartbeats 2000000 in
theorem mdo_noone (hk:1≤x.kind∧x.kind≤15) (hc:¬ (0≤c∧c<8)) :
  Calls Tryz.prog 13 #[.pointer (some ⟨P,0,none⟩),.int .i64 c,.agg (opC x)] w fun e w'=>e=.returned (.agg #[.int .i64 1,.int .u64 0,.int .u64 0])∧w.grownBy w' none:=by
 obtain ⟨hop,hres,hg0⟩:=Ybq (w:=w) x
 obtain ⟨W0,hW0⟩:∃ W0,((w.alloc (.cells (opC x) 41)).alloc (.cells #[.int .i64 0,.int .u64 0,.int .u64 0] 46))=W0:=⟨_,rfl⟩
 rw [hW0] at hop hres hg0
 have HRX:=Lib.hid hres
 have HOX:=Lib.hid hop
 have HG0:=Lib.hid hg0
 obtain ⟨o0,o1,o2,o3,o4,o5,o6,o7⟩:=Yal hop
 unfold opC at hW0 ⊢
 have hfl:=fun V=>Ya6 1 V
 have hk2:¬ (x.kind<1):=by omega
 have hk3:¬ (15<x.kind):=by omega
 have hcl:=fun V=>Yb9 c V
 have hcd:decide (0≤c∧c<8)=false:=decide_eq_false hc
 simp only [hcd] at hcl
 clear hcd hc hk
 clear hop hres hg0
 go_enter Tryz.func13,Tryz.ntmps13
 go_wp2_with (first
  | (go_at_call 32;go_must ((with_reducible refine (hcl _).mono ?_);rintro e w3 ⟨rfl,rfl⟩))
  | (go_at_call 33;go_must ((with_reducible refine (hfl _).mono ?_);rintro e w4 ⟨rfl,hGG⟩;have hbx3:=(hGG.block _ (lt_of_block HRX.out) (by simp)).trans HRX.out;obtain ⟨y0,y1,y2⟩:=Yaf hbx3;obtain ⟨z0,z1,z2⟩:=Yak hbx3)))
 have q:=Yaz hbx3 (x':=.int .i64 1) (y':=.int .u64 0) (z':=.int .u64 0)
 obtain ⟨k0,k1,k2⟩:=Yaf q
 refine bodyPost_ret (v:=.agg #[.int .i64 1,.int .u64 0,.int .u64 0]) (by simp [results,Tryz.results13,go_sem,k0,k1,k2]) rfl ?_
 exact ⟨rfl,Yap (Yaa (Yam (Yaa HG0.out hGG) (some (w.heap.size+1))) (Yaa (Yac _ _ _ _) (Yaa (Yac _ _ _ _) (Yac _ _ _ _)))) (by omega)⟩
end
end
section
section
variable {w w' w1 w2:World} {m c:Nat} {d:List Nat} {la:Option Addr}
theorem own_empty (w:World) (base:Nat) (hb:base≤w.heap.size):(w.alloc (.cells #[] 26)).ownsRow base 26 1 (.slice (some ⟨w.heap.size,0,none⟩) 0 0) 0 [] :=
 ⟨rfl,.inr ⟨w.heap.size,0,#[],rfl,hb,Yab w _,Nat.le_refl _,Nat.zero_le _,rfl,rfl⟩⟩
set_option maxHeartbeats 1000000 in
theorem clone_words (h:Yb1 w la d) (hl:d.length=m) (hm:m≤1000000) :
  Calls Tryz.prog 37 #[.slice la m c] w fun e w'=>∃ v',e=.returned v'∧OwnW w' w.heap.size v' d∧w.grownBy w' none:=by
 rcases la with _|ad
 ·have hd:d=[]:=by
   rcases Nat.eq_zero_or_pos d.length with h0|h0
   ·exact List.length_eq_zero_iff.1 h0
   ·obtain ⟨b,off,hb,_⟩:=h.cells h0
    cases hb
  subst hd
  have heq:=Lib.run_eql_slice_nil (P:=Tryz.prog) w 28 26 none m c 0 0 Tryz.underlying28
  go_enter Tryz.func37,Tryz.ntmps37
  go_wp2
  go_ret
  exact ⟨_,rfl,World.ownsRow_nil _ _ _ _,Yag _ _⟩
 ·have he:=own_empty w w.heap.size (Nat.le_refl _)
  have hg0:=World.grownBy_alloc w (.cells #[] 26) none
  have hw:=h.later hg0
  obtain ⟨i0,hi,hz0,hz1,hz2⟩:=info_parts info_u64
  have hlen:(Ybi d).length=m*1:=by simp [Ybi,hl]
  have hcell:∀ j u,(Ybi d)[j]?=some u→(w.alloc (.cells #[] 26)).cell? (ad.add j)=some u:=fun j u hj=>by
   have hjm:j<d.length:=by
    rcases Nat.lt_or_ge j d.length with h'|h'
    ·exact h'
    ·rw [List.getElem?_eq_none (by rw [hlen];omega)] at hj;cases hj
   obtain ⟨b,off,hb,_,hcs⟩:=hw.cells (by omega)
   injection hb with hb
   subst hb
   have hadd:(⟨b,off,none⟩:Addr).add j=⟨b,off+j,none⟩:=by unfold Addr.add;split <;> simp_all
   rw [hadd,hcs j hjm,← hj]
   simp [Ybi,List.getElem?_eq_getElem hjm]
  have hone:∀ u∈Ybi d,u.oneCell'=true:=fun u hu=>by
   simp only [Ybi,List.mem_map] at hu
   obtain ⟨y,_,rfl⟩:=hu
   rfl
  obtain ⟨v',w',hr,h2,h3,_,h5⟩:=run_append_own_at (P:=Tryz.prog) (w.alloc (.cells #[] 26)) w.heap.size 28 28 26 i0 (.int .u64 0) 1 8 Tryz.underlying28 hi hz0 hz1 hz2 rfl (by decide) _ 0 [] he ad m c (Ybi d) hlen hcell hone (by unfold maxLen;omega) (by omega) (by simp)
  have hown:OwnW w' w.heap.size v' d:=by
   unfold OwnW
   rw [hl]
   simpa using h2
  have hgg:w.grownBy w' none:=Yap (Yaa (Yam hg0 (some w.heap.size)) h3) (Nat.le_refl _)
  have HO:=Lib.hid hown
  have HG:=Lib.hid hgg
  have heq:=Lib.run_eql_slice_nil (P:=Tryz.prog) w 28 26 (some ad) m c 0 0 Tryz.underlying28
  clear hown hgg h2 h3 h5 hcell hone hlen hw h he
  go_enter Tryz.func37,Tryz.ntmps37
  go_wp2_with (at_builtin;go_must (refine Lib.wpList_append_run _ rfl _ _ _ _ rfl _ _ rfl rfl _ _ hr ?_))
  go_ret
  exact ⟨_,rfl,HO.out,HG.out⟩
theorem own_emptyK (w:World):(w.alloc (.cells #[] 53)).ownsRow 0 53 6 (.slice (some ⟨w.heap.size,0,none⟩) 0 0) 0 [] :=
 ⟨rfl,.inr ⟨w.heap.size,0,#[],rfl,Nat.zero_le _,Yab w _,Nat.le_refl _,Nat.zero_le _,rfl,rfl⟩⟩
set_option maxHeartbeats 1000000 in
theorem clone_kb {g cap n:Nat} {f:Nat→KB} (h:RowF w g cap n f) (hn:n≤1000) (h0:0<n) :
  Calls Tryz.prog 36 #[.slice (some ⟨g,0,none⟩) n cap] w fun e w'=>∃ g' cap',e=.returned (.slice (some ⟨g',0,none⟩) n cap')∧RowF w' g' cap' n f∧w.heap.size≤g'∧w.grownBy w' none:=by
 have he:=own_emptyK w
 have hg0:=World.grownBy_alloc w (.cells #[] 53) none
 have hw:=h.later hg0
 obtain ⟨i0,hi,hz0,hz1,hz2⟩:=info_parts info_kb
 have hcell:∀ j u,(Yde f n)[j]?=some u→(w.alloc (.cells #[] 53)).cell? ((⟨g,0,none⟩:Addr).add j)=some u:=fun j u hj=>by
  have hadd:(⟨g,0,none⟩:Addr).add j=⟨g,0*6+j,none⟩:=by unfold Addr.add;split <;> simp_all
  rw [hadd]
  exact hw.src (q:=0) (X:=(List.range n).map f) (by simp) (fun j hj=>by rw [rangeK_at (by simpa using hj),Nat.zero_add]) j u hj
 have hone:∀ u∈Yde f n,u.oneCell'=true:=fun u hu=>by
  unfold Yde Ybv at hu
  obtain ⟨y,_,hy⟩:=List.mem_flatMap.1 hu
  exact y.cel_one u hy
 obtain ⟨v',w',hr,h2,h3,_,h5⟩:=run_append_own_at (P:=Tryz.prog) (w.alloc (.cells #[] 53)) 0 50 50 53 i0 (.agg #[.int .u64 0,.int .u64 0,.bool false,.int .i64 0,.int .u64 0,.slice none 0 0]) 6 64 Tryz.underlying50 hi hz0 hz1 hz2 rfl (by decide) _ 0 [] he ⟨g,0,none⟩ n cap (Yde f n) (by unfold Yde;rw [Yci];simp) hcell hone (by unfold maxLen;omega) (by omega) (Nat.zero_le _)
 rw [Nat.zero_add,List.nil_append] at h2
 obtain ⟨g',cap',rfl,hrow⟩:=RowF.of_owns h2 h0
 have hloc:w.heap.size≤g':=by
  rcases h5 with h5|h5
  ·have h6:some g'=some w.heap.size:=h5
   injection h6 with h6
   omega
  ·have h6:some g'=some (w.alloc (.cells #[] 53)).heap.size:=h5
   rw [World.size_alloc] at h6
   injection h6 with h6
   omega
 have HR:=Lib.hid (And.intro hrow (And.intro hloc (Yap (Yaa (Yam hg0 (some w.heap.size)) h3) (Nat.le_refl _):w.grownBy w' none)))
 have heq:=Lib.run_eql_slice_nil (P:=Tryz.prog) w 50 53 (some ⟨g,0,none⟩) n cap 0 0 Tryz.underlying50
 clear hrow hloc h2 h3 h5 hcell hone hw h he
 go_enter Tryz.func36,Tryz.ntmps36
 go_wp2_with (at_builtin;go_must (refine Lib.wpList_append_run _ rfl _ _ _ _ rfl _ _ rfl rfl _ _ hr ?_))
 go_ret
 exact ⟨g',cap',rfl,HR.out⟩
end
end
section
def Cop (w:World) (base:Nat) (f f':Nat→KB) (n k:Nat):Prop:=∀ j,j<n→(f' j).b=(f j).b∧(f' j).d=(f j).d∧(j<k→OwnW w base (kv (f' j)) (f j).d)∧(k≤j→f' j=f j)
section
variable {w w' w1 w2:World} {F:Nat→Prop} {P all g cap n k base:Nat} {f f':Nat→KB} {ns:List (ByteArray × Nat)} {lv:Nat→Bool} {l:List KB}
set_option maxHeartbeats 4000000 in
theorem blocks_any (h:Md w F P all l ns lv) (hn:l.length≤1000) (h0:0<l.length) (hm:∀ z∈l,z.m≤1000000) :
  Calls Tryz.prog 15 #[.pointer (some ⟨P,0,none⟩)] w fun e w'=>∃ g' cap' f f',e=.returned (.slice (some ⟨g',0,none⟩) l.length cap')∧Ycb f l.length=l∧RowF w' g' cap' l.length f'∧w.heap.size≤g'∧Cop w' w.heap.size f f' l.length l.length∧w.grownBy w' none:=by
 obtain ⟨g,cap,f,M,hst,hk,hPg,hFg,hFM,hmp⟩:=h.ex
 obtain ⟨n,hnl⟩:∃ n,l.length=n:=⟨_,rfl⟩
 have hown:∀ j,j<l.length→OwnW w 0 (kv (f j)) (f j).d:=fun j hj=>h.own _ (Ydp hk hj)
 have hmj:∀ j,j<l.length→(f j).m≤1000000:=fun j hj=>hm _ (Ydp hk hj)
 rw [hnl] at hst hk hn h0 hown hmj ⊢
 have d1:=hst.cells.2.1
 have hcl:=clone_kb hst.row hn h0
 have HOW:=Lib.hid hown
 have HMJ:=Lib.hid hmj
 have HK:=Lib.hid hk
 clear h hst hk hnl hmp hm hown hmj hFg hFM
 go_enter Tryz.func15,Tryz.ntmps15
 go_wp2_with (go_at_call 36;go_must ((with_reducible refine hcl.mono ?_);rintro e w1 ⟨g',cap',rfl,hr1,hl1,hg1⟩))
 go_loopw [14] (fun vk wr=>∃ (k:Nat) (f':Nat→KB),k≤n∧vk=.int .i64 k∧RowF wr g' cap' n f'∧w.grownBy wr none∧Hid (Cop wr w.heap.size f f' n k)) (fun vk _=>n - (intOf vk).toNat)
 case atStart=>exact ⟨0,f,Nat.zero_le _,rfl,hr1,hg1,Lib.hid (fun j hj=>⟨rfl,rfl,fun h=>absurd h (Nat.not_lt_zero _),fun _=>rfl⟩)⟩
 case round =>
  obtain ⟨k,f',hk,rfl,hrow,hg,HC⟩:=hrel
  by_cases h1:k<n
  ·have h1':(k:Int)<(n:Int):=by omega
   have hfk:=(HC.out k h1).2.2.2 (Nat.le_refl _)
   have e5:=(hrow.cells h1).2.2.2.2.2
   rw [hfk] at e5
   obtain ⟨hwd,hwl⟩:=ownW_form ((HOW.out k h1).later hg)
   have hcw:=clone_words (c:=(f k).c) hwd hwl (HMJ.out k h1)
   obtain ⟨a,ha⟩:∃ a,(f k).a=a:=⟨_,rfl⟩
   obtain ⟨m,hm⟩:∃ m,(f k).m=m:=⟨_,rfl⟩
   obtain ⟨c,hc⟩:∃ c,(f k).c=c:=⟨_,rfl⟩
   rw [ha,hm,hc] at e5 hcw
   have HROW:=Lib.hid hrow
   have HG:=Lib.hid hg
   have HFK:=Lib.hid hfk
   clear hwd hwl ha hm hc hrow hg hfk
   go_wp2_with (go_at_call 37;go_must ((with_reducible refine hcw.mono ?_);rintro e w2 ⟨v2,rfl,ho2,hg2⟩;obtain ⟨a2,c2,rfl⟩:=ho2.slice;have hr2:=HROW.out.later hg2;have e6:=(hr2.cells h1).2.2.2.2.2;have z6:=hr2.frz (k*6+5)))
   have hr3:=hr2.set (v:=.slice a2 (f k).d.length c2) (x:=⟨(f k).b,a2,(f k).d.length,c2,(f k).d⟩) h1 (show 5<6 by decide) (by rw [HFK.out];rfl)
   have hg3:=Yac w2 g' (k*6+5) (.slice a2 (f k).d.length c2)
   obtain ⟨W3,hW3⟩:∃ W3,w2.setCell ⟨g',k*6+5,none⟩ (.slice a2 (f k).d.length c2)=W3:=⟨_,rfl⟩
   rw [hW3] at hr3 hg3
   have hgw:w.grownBy W3 none:=Yaj (Yaa HG.out hg2) hg3 (fun i hi=>.inl (by injection hi with hi;omega))
   obtain ⟨cur2,hc2,_⟩:=hr2.blk
   have hkeep:∀ {v:Value} {d:List Nat},OwnW w2 w.heap.size v d→OwnW W3 w.heap.size v d:=fun {v d} ho=>by
    refine World.ownsRow.kept ho hg3 ?_
    rcases ho.2 with ⟨hv,_⟩|⟨q,cq,cur,hv,_,hq,_⟩
    ·exact .inl (by rw [hv];rfl)
    ·refine .inr fun e=>?_
     rw [hv] at e
     have e':some q=some g':=e
     injection e' with e'
     exact Ybu hq hc2 (by decide) e'
   have hsz:w.heap.size≤(w2.heap.size):=(Yaa HG.out hg2).size
   have hC:Cop W3 w.heap.size f (updK f' k ⟨(f k).b,a2,(f k).d.length,c2,(f k).d⟩) n (k+1):=fun j hj=>by
    obtain ⟨q1,q2,q3,q4⟩:=HC.out j hj
    by_cases e:j=k
    ·subst e
     rw [Yby]
     exact ⟨rfl,rfl,fun _=>hkeep (OwnW.mono ho2 HG.out.size),fun h=>absurd h (by omega)⟩
    ·rw [Ydu e]
     exact ⟨q1,q2,fun hjk=>hkeep ((q3 (by omega)).later hg2),fun hkj=>q4 (by omega)⟩
   have HC2:=Lib.hid hC
   clear hC hkeep ho2
   subst hW3
   go_wp2
   go_roundw
   case rel=>exact ⟨k+1,_,by omega,by go_num,hr3,hgw,HC2.out⟩
   case measure=>simp [intOf];omega
  ·obtain rfl:k=n:=by omega
   go_wp2
   go_ret
   exact ⟨g',cap',f,f',rfl,HK.out,hrow,hl1,HC.out,hg⟩
end
end
end Go.Proofs.YtfhiljglfhekdaaGreat
