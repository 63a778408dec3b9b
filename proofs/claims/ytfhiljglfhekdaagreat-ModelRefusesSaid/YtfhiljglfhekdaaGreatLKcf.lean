/-
  Texts of one layer, one behind the other: memory, contracts of the functions, and what follows of them.
  Conditions: as each theorem says.
-/
import Derived.Test.YtfhiljglfhekdaaGreatLKce
set_option linter.unusedVariables false
set_option linter.unusedSimpArgs false
set_option maxRecDepth 100000
namespace Go.Proofs.YtfhiljglfhekdaaGreat
open Go.RowKit
section
def KB.worded (y:KB) (i v:Nat):KB:=⟨y.b,y.a,y.m,y.c,y.d.set i v⟩
section
variable {w w' w1:World} {F:Nat→Prop} {P g cap n all E b k c i N:Nat} {f:Nat→KB} {mv bv:Value} {ns:List (ByteArray × Nat)} {lv:Nat→Bool} {l A C:List KB} {y:KB} {x:OpM}
theorem dats_apart (h:(dats (A++y::C)).Nodup) (hN:(kv y).ownBlock=some N):∀ z,z∈A∨z∈C→(kv z).ownBlock≠some N:=by
 have e:dats (A++y::C)=dats A++(N::dats C):=by
  rw [Ycl,Ycg y C]
  have:dats [y]=[N]:=by unfold dats;simp [hN]
  rw [this];rfl
 rw [e,List.nodup_append] at h
 obtain ⟨h1,h2,h3⟩:=h
 rintro z (hz|hz) hk
 ·exact h3 N (dats_mem.2 ⟨z,hz,hk⟩) N (by simp) rfl
 ·exact (List.nodup_cons.1 h2).1 (dats_mem.2 ⟨z,hz,hk⟩)
theorem own_set1 {v:Value} {d:List Nat} (h:OwnW w 0 v d) (hN:v.ownBlock=some N) (hi:i<d.length) (u:Nat):OwnW (w.setCell ⟨N,i,none⟩ (.int .u64 (u:Nat))) 0 v (d.set i u)∧w.cell? ⟨N,i,none⟩=some (.int .u64 (d.getD i 0:Nat))∧w.frozen? ⟨N,i,none⟩=false:=by
 rcases h.2 with ⟨rfl,_⟩|⟨g,cap,cur,rfl,_,hgg,h3,h4,h5,h6⟩
 ·cases hN
 ·injection hN with hN
  subst hN
  have hat:cur[i]?=some (.int .u64 (d.getD i 0:Nat)):=by
   have:(Ybi d)[i]?=some (.int .u64 (d.getD i 0:Nat)):=by
    rw [cellsU_at,List.getElem?_eq_getElem hi,List.getD_eq_getElem?_getD,List.getElem?_eq_getElem hi];rfl
   rw [← this,← h6,List.getElem?_take_of_lt (by omega)]
   simp
  refine ⟨⟨by simp [Ybi],.inr ⟨g,cap,cur.setIfInBounds i (.int .u64 (u:Nat)),by rw [List.length_set],Nat.zero_le _,Yar hgg _,by rw [List.length_set];exact h3,h4,by simp [h5],?_⟩⟩,by simp [World.cell?,hgg,hat],by simp [World.frozen?,hgg]⟩
  rw [List.length_set]
  unfold Ybi at h6 ⊢
  rw [List.map_set,← h6]
  simp [List.take_set]
theorem Md.word (h:Md w F P all (A++y::C) ns lv) (hN:(kv y).ownBlock=some N) (hi:i<y.d.length) (u:Nat):MdR w (w.setCell ⟨N,i,none⟩ (.int .u64 (u:Nat))) F P all (A++y.worded i u::C) ns lv∧w.cell? ⟨N,i,none⟩=some (.int .u64 (y.d.getD i 0:Nat))∧w.frozen? ⟨N,i,none⟩=false:=by
 obtain ⟨g,cap,f,M,hst,hk2,hPg,hFg,hFM,hmp⟩:=h.ex
 have hy:=h.own y (by simp)
 obtain ⟨hs1,hs2,hs3⟩:=own_set1 hy hN hi u
 obtain ⟨cur,hc⟩:=Ycn hy hN
 have hg:=Yac w N i (.int .u64 (u:Nat))
 have hMN:some M≠some N:=fun e=>by injection e with e;exact hmp.ne hc e
 have hPN:P≠N:=fun e=>Ybu hst.box hc (by decide) e
 have hFN:F N:=h.dF N (dats_mem.2 ⟨y,by simp,hN⟩)
 obtain ⟨m,hm⟩:∃ m,(A++y::C).length=m:=⟨_,rfl⟩
 have hl:(A++y.worded i u::C).length=m:=by rw [← hm];simp
 rw [hm] at hst hk2
 have hk3:Ycb (updK f A.length (y.worded i u)) m=A++y.worded i u::C:=(Ybn hk2 rfl (y.worded i u)).2.2
 have hfA:=(Ybn hk2 rfl (y.worded i u)).1
 have hdd:dats (A++y.worded i u::C)=dats (A++y::C):=dats_keep rfl
 have hst2:StB (w.setCell ⟨N,i,none⟩ (.int .u64 (u:Nat))) P g cap m all (updK f A.length (y.worded i u)) (.map (some M)) lv:=by
  refine ⟨(hg.block _ (lt_of_block hst.box) (fun e=>hPN (by injection e))).trans hst.box,?_⟩
  have hr:=hst.row.other hc (by decide) hg
  obtain ⟨cur2,q1,q2,q3⟩:=hr.ex
  refine ⟨⟨cur2,q1,q2,fun j hj i' hi'=>?_⟩,hr.le,hr.cap⟩
  by_cases e:j=A.length
  ·subst e;rw [Yby,q3 _ hj _ hi',hfA];rfl
  ·rw [Ydu e];exact q3 j hj i' hi'
 rw [← hl] at hst2 hk3
 refine ⟨⟨⟨⟨g,cap,_,M,hst2,hk3,hPg,.inl hFg,.inl hFM,hmp.kept hg hMN⟩,fun z hz=>?_,by rw [hdd];exact h.nod,fun q hq=>by rw [hdd] at hq;exact .inl (h.dF q hq),fun z hz hzu=>?_,.inl h.pF,Ycp h.lt hg.size⟩,Ybm hg (fun q e=>by injection e with e;rw [← e];exact hFN)⟩,hs2,hs3⟩
 ·have hap:=dats_apart h.nod hN
  rcases List.mem_append.1 hz with h1|h1
  ·refine World.ownsRow.kept (h.own z (by simp [h1])) hg ?_
   by_cases e1:(kv z).ownBlock=none
   ·exact .inl e1
   ·exact .inr (hap z (.inl h1))
  ·rcases List.mem_cons.1 h1 with rfl|h2
   ·exact hs1
   ·refine World.ownsRow.kept (h.own z (by simp [h2])) hg ?_
    by_cases e1:(kv z).ownBlock=none
    ·exact .inl e1
    ·exact .inr (hap z (.inr h2))
 ·rcases List.mem_append.1 hz with h1|h1
  ·exact h.free z (by simp [h1]) hzu
  ·rcases List.mem_cons.1 h1 with rfl|h2
   ·have:=h.free y (by simp) hzu
    obtain ⟨b1,_,_,_⟩:=this
    unfold kv at hN
    rw [b1] at hN
    cases hN
   ·exact h.free z (by simp [h2]) hzu
set_option maxHeartbeats 2000000 in
theorem mwordOf_bad (h:Md w F P all l ns lv) (hs:Sane E l) (hc:c<8) (hne:Ybj (l.map KB.b) x.off [0,((c:Int)+1)]≠0) :
  Calls Tryz.prog 94 #[.pointer (some ⟨P,0,none⟩),.int .i64 c,.agg (opC x)] w fun e w'=>e=.returned (.tuple #[.pointer none,.int .i64 (Ybj (l.map KB.b) x.off [0,((c:Int)+1)]:Nat)])∧w.grownBy w' none:=by
 have hop:=Yab w (.cells (opC x) 41)
 have hg0:=World.grownBy_alloc w (.cells (opC x) 41) none
 obtain ⟨W0,hW0⟩:∃ W0,w.alloc (.cells (opC x) 41)=W0:=⟨_,rfl⟩
 rw [hW0] at hop hg0
 have hM0:=h.later hg0
 have HOX:=Lib.hid hop
 have HG0:=Lib.hid hg0
 obtain ⟨o0,o1,o2,o3,o4,o5,o6,o7⟩:=Yal hop
 unfold opC at hW0 ⊢
 have how:=fun V=>Ybg hc V
 obtain ⟨W1,hW1⟩:∃ W1,(W0.alloc (.cells #[.int .i64 0,.int .i64 ((c:Int)+1)] 3)).drew=W1:=⟨_,rfl⟩
 have hg1:W0.grownBy W1 none:=by rw [← hW1];exact Yah (World.grownBy_alloc _ _ _)
 have hin1:Ycj W1 W0.heap.size [0,((c:Int)+1)]:=by
  rw [← hW1]
  exact (ints_two W0 _ _).later (Yah (Yag _ none))
 have hus:=Ycs (hM0.later hg1) hs.lay x.off (ow:=[0,((c:Int)+1)]) (m:=2) rfl (by decide) hin1 2
 obtain ⟨ui,hui⟩:∃ ui,Yei (l.map KB.b) x.off [0,((c:Int)+1)]=ui:=⟨_,rfl⟩
 obtain ⟨ue,hue⟩:∃ ue,Ybj (l.map KB.b) x.off [0,((c:Int)+1)]=ue:=⟨_,rfl⟩
 have p3:W0.drew.cell? ⟨w.heap.size,3,none⟩=some (.int .u64 (x.off:Nat)):=o3
 have p4:W1.cell? ⟨w.heap.size,3,none⟩=some (.int .u64 (x.off:Nat)):=hg1.cell o3 (by simp)
 have p5:(W0.alloc (.cells #[.int .i64 0,.int .i64 ((c:Int)+1)] 3)).cell? ⟨w.heap.size,3,none⟩=some (.int .u64 (x.off:Nat)):=(World.grownBy_alloc W0 _ none).cell o3 (by simp)
 have HG1:=Lib.hid hg1
 rw [hui,hue] at hus
 rw [hue] at hne ⊢
 have h1:¬ ((ue:Int)=0):=by omega
 have h2:((ue:Int) != 0)=true:=by simp;omega
 clear hop hg0 hM0 h hui hue hin1 hg1 hne
 go_enter Tryz.func94,Tryz.ntmps94
 go_wp2
 go_region_law (first
  | (go_simp;go_at_call 38;go_must ((with_reducible refine (how _).mono ?_);rintro e v1 ⟨rfl,rfl⟩))
  | (go_simp;go_at_call 88;go_must ((with_reducible refine hus.mono ?_);rintro e w2 ⟨rfl,hg2⟩;have hGG:=Yaa HG1.out hg2)))
 all_goals
  go_wp2
  go_ret2
  exact ⟨rfl,Yaa HG0.out hGG⟩
set_option maxHeartbeats 2000000 in
theorem mwordOf_in (h:Md w F P all l ns lv) (hs:Sane E l) (hc:c<8) (hxi:x.i<18446744073709551616) (hz:Ybj (l.map KB.b) x.off [0,((c:Int)+1)]=0) (hi:fstN (pF x.off) (l.map KB.b)=some i) (hl:l=A++y::C) (hA:A.length=i) (hds:y.d.length≤1000000) (hlt:x.i<y.d.length) :
  Calls Tryz.prog 94 #[.pointer (some ⟨P,0,none⟩),.int .i64 c,.agg (opC x)] w fun e w'=>∃ N,(kv y).ownBlock=some N∧e=.returned (.tuple #[.pointer (some ⟨N,x.i,none⟩),.int .i64 0])∧w.grownBy w' none:=by
 have hop:=Yab w (.cells (opC x) 41)
 have hg0:=World.grownBy_alloc w (.cells (opC x) 41) none
 obtain ⟨W0,hW0⟩:∃ W0,w.alloc (.cells (opC x) 41)=W0:=⟨_,rfl⟩
 rw [hW0] at hop hg0
 have hM0:=h.later hg0
 have HOX:=Lib.hid hop
 have HG0:=Lib.hid hg0
 obtain ⟨o0,o1,o2,o3,o4,o5,o6,o7⟩:=Yal hop
 unfold opC at hW0 ⊢
 have how:=fun V=>Ybg hc V
 obtain ⟨W1,hW1⟩:∃ W1,(W0.alloc (.cells #[.int .i64 0,.int .i64 ((c:Int)+1)] 3)).drew=W1:=⟨_,rfl⟩
 have hg1:W0.grownBy W1 none:=by rw [← hW1];exact Yah (World.grownBy_alloc _ _ _)
 have hin1:Ycj W1 W0.heap.size [0,((c:Int)+1)]:=by
  rw [← hW1]
  exact (ints_two W0 _ _).later (Yah (Yag _ none))
 have hus:=Ycs (hM0.later hg1) hs.lay x.off (ow:=[0,((c:Int)+1)]) (m:=2) rfl (by decide) hin1 2
 obtain ⟨ui,hui⟩:∃ ui,Yei (l.map KB.b) x.off [0,((c:Int)+1)]=ui:=⟨_,rfl⟩
 obtain ⟨ue,hue⟩:∃ ue,Ybj (l.map KB.b) x.off [0,((c:Int)+1)]=ue:=⟨_,rfl⟩
 have p3:W0.drew.cell? ⟨w.heap.size,3,none⟩=some (.int .u64 (x.off:Nat)):=o3
 have p4:W1.cell? ⟨w.heap.size,3,none⟩=some (.int .u64 (x.off:Nat)):=hg1.cell o3 (by simp)
 have p5:(W0.alloc (.cells #[.int .i64 0,.int .i64 ((c:Int)+1)] 3)).cell? ⟨w.heap.size,3,none⟩=some (.int .u64 (x.off:Nat)):=(World.grownBy_alloc W0 _ none).cell o3 (by simp)
 have HG1:=Lib.hid hg1
 obtain ⟨i',hi1,_,hi3⟩:=Ycm hz
 have hii:ui=i:=by rw [hi] at hi1;injection hi1 with hi1;rw [← hui,hi3,hi1]
 rw [hui,hz,hii] at hus
 have HY:=Lib.hid (hM0.own y (by rw [hl];simp))
 obtain ⟨g,cap,f,M,hst,hk,hPg,hFg,hFM,hmp⟩:=hM0.ex
 obtain ⟨n,hn⟩:∃ n,l.length=n:=⟨_,rfl⟩
 rw [hn] at hst hk
 have hk2:=hk
 rw [hl] at hk2
 obtain ⟨hfi,hin,_⟩:=Ybn hk2 hA y
 have hin':(i:Int)<(n:Int):=by omega
 have HST:=Lib.hid hst
 have HFI:=Lib.hid hfi
 obtain ⟨hwd,hwl⟩:=ownW_form HY.out
 obtain ⟨m,hm⟩:∃ m,y.m=m:=⟨_,rfl⟩
 have hmm:y.d.length=m:=by rw [hwl,hm]
 have HFM2:Hid ((f i).m=m):=Lib.hid (by rw [hfi,hm])
 have HMM:=Lib.hid hmm
 have hmm0:=hmm
 rw [hmm] at hds
 have wm:IntKind.u64.wrap (m:Int)=(m:Nat):=by rw [IntKind.wrap_u64];omega
 clear hop hg0 hM0 h hui hue hin1 hg1 hz hi hi1 hi3 hii hst hk hk2 hfi hmp hn hwl hm hmm
 rw [hmm0] at hlt
 have hlt':¬ (m:Int)≤(x.i:Int):=by omega
 have hlt2:(x.i:Int)<(m:Int):=by omega
 obtain ⟨N,hNb,hNa⟩:∃ N,(kv y).ownBlock=some N∧y.a=some ⟨N,0,none⟩:=by
  rcases HY.out.2 with ⟨h1,h2⟩|⟨q,_,_,h1,_⟩
  ·rw [HMM.out] at h2;omega
  ·unfold kv at h1 ⊢
   injection h1 with e1 e2 e3
   rw [e1]
   exact ⟨q,rfl,rfl⟩
 have HNB:=Lib.hid hNb
 have HFA:Hid ((f i).a=some ⟨N,0,none⟩):=Lib.hid (by rw [HFI.out];exact hNa)
 clear hwd hNb hNa hmm0
 go_enter Tryz.func94,Tryz.ntmps94
 go_wp2
 go_region_law (first
  | (go_simp;go_at_call 38;go_must ((with_reducible refine (how _).mono ?_);rintro e v1 ⟨rfl,rfl⟩))
  | (go_simp;go_at_call 88;go_must ((with_reducible refine hus.mono ?_);rintro e w2 ⟨rfl,hg2⟩;have hGG:=Yaa HG1.out hg2)))
 all_goals
  have hst2:=HST.out.later hGG
  have e1:=hst2.cells.2.1
  have e2:=(hst2.row.cells hin).2.2.2.2.2
  rw [HFA.out,HFM2.out] at e2
  obtain ⟨_,_,_,_,q4,_,_,_⟩:=Yal ((hGG.block _ (lt_of_block HOX.out) (by simp)).trans HOX.out)
  clear hst2
  go_wp2
  go_ret2
  exact ⟨N,HNB.out,rfl,Yaa HG0.out hGG⟩
set_option maxHeartbeats 2000000 in
theorem mwordOf_out (h:Md w F P all l ns lv) (hs:Sane E l) (hc:c<8) (hxi:x.i<18446744073709551616) (hz:Ybj (l.map KB.b) x.off [0,((c:Int)+1)]=0) (hi:fstN (pF x.off) (l.map KB.b)=some i) (hl:l=A++y::C) (hA:A.length=i) (hds:y.d.length≤1000000) (hlt:¬ x.i<y.d.length) :
  Calls Tryz.prog 94 #[.pointer (some ⟨P,0,none⟩),.int .i64 c,.agg (opC x)] w fun e w'=>e=.returned (.tuple #[.pointer none,.int .i64 1])∧w.grownBy w' none:=by
 have hop:=Yab w (.cells (opC x) 41)
 have hg0:=World.grownBy_alloc w (.cells (opC x) 41) none
 obtain ⟨W0,hW0⟩:∃ W0,w.alloc (.cells (opC x) 41)=W0:=⟨_,rfl⟩
 rw [hW0] at hop hg0
 have hM0:=h.later hg0
 have HOX:=Lib.hid hop
 have HG0:=Lib.hid hg0
 obtain ⟨o0,o1,o2,o3,o4,o5,o6,o7⟩:=Yal hop
 unfold opC at hW0 ⊢
 have how:=fun V=>Ybg hc V
 obtain ⟨W1,hW1⟩:∃ W1,(W0.alloc (.cells #[.int .i64 0,.int .i64 ((c:Int)+1)] 3)).drew=W1:=⟨_,rfl⟩
 have hg1:W0.grownBy W1 none:=by rw [← hW1];exact Yah (World.grownBy_alloc _ _ _)
 have hin1:Ycj W1 W0.heap.size [0,((c:Int)+1)]:=by
  rw [← hW1]
  exact (ints_two W0 _ _).later (Yah (Yag _ none))
 have hus:=Ycs (hM0.later hg1) hs.lay x.off (ow:=[0,((c:Int)+1)]) (m:=2) rfl (by decide) hin1 2
 obtain ⟨ui,hui⟩:∃ ui,Yei (l.map KB.b) x.off [0,((c:Int)+1)]=ui:=⟨_,rfl⟩
 obtain ⟨ue,hue⟩:∃ ue,Ybj (l.map KB.b) x.off [0,((c:Int)+1)]=ue:=⟨_,rfl⟩
 have p3:W0.drew.cell? ⟨w.heap.size,3,none⟩=some (.int .u64 (x.off:Nat)):=o3
 have p4:W1.cell? ⟨w.heap.size,3,none⟩=some (.int .u64 (x.off:Nat)):=hg1.cell o3 (by simp)
 have p5:(W0.alloc (.cells #[.int .i64 0,.int .i64 ((c:Int)+1)] 3)).cell? ⟨w.heap.size,3,none⟩=some (.int .u64 (x.off:Nat)):=(World.grownBy_alloc W0 _ none).cell o3 (by simp)
 have HG1:=Lib.hid hg1
 obtain ⟨i',hi1,_,hi3⟩:=Ycm hz
 have hii:ui=i:=by rw [hi] at hi1;injection hi1 with hi1;rw [← hui,hi3,hi1]
 rw [hui,hz,hii] at hus
 have HY:=Lib.hid (hM0.own y (by rw [hl];simp))
 obtain ⟨g,cap,f,M,hst,hk,hPg,hFg,hFM,hmp⟩:=hM0.ex
 obtain ⟨n,hn⟩:∃ n,l.length=n:=⟨_,rfl⟩
 rw [hn] at hst hk
 have hk2:=hk
 rw [hl] at hk2
 obtain ⟨hfi,hin,_⟩:=Ybn hk2 hA y
 have hin':(i:Int)<(n:Int):=by omega
 have HST:=Lib.hid hst
 have HFI:=Lib.hid hfi
 obtain ⟨hwd,hwl⟩:=ownW_form HY.out
 obtain ⟨m,hm⟩:∃ m,y.m=m:=⟨_,rfl⟩
 have hmm:y.d.length=m:=by rw [hwl,hm]
 have HFM2:Hid ((f i).m=m):=Lib.hid (by rw [hfi,hm])
 have HMM:=Lib.hid hmm
 have hmm0:=hmm
 rw [hmm] at hds
 have wm:IntKind.u64.wrap (m:Int)=(m:Nat):=by rw [IntKind.wrap_u64];omega
 clear hop hg0 hM0 h hui hue hin1 hg1 hz hi hi1 hi3 hii hst hk hk2 hfi hmp hn hwl hm hmm
 rw [hmm0] at hlt
 have hlt':(m:Int)≤(x.i:Int):=by omega
 clear hwd hmm0
 go_enter Tryz.func94,Tryz.ntmps94
 go_wp2
 go_region_law (first
  | (go_simp;go_at_call 38;go_must ((with_reducible refine (how _).mono ?_);rintro e v1 ⟨rfl,rfl⟩))
  | (go_simp;go_at_call 88;go_must ((with_reducible refine hus.mono ?_);rintro e w2 ⟨rfl,hg2⟩;have hGG:=Yaa HG1.out hg2)))
 all_goals
  have hst2:=HST.out.later hGG
  have e1:=hst2.cells.2.1
  have e2:=(hst2.row.cells hin).2.2.2.2.2
  rw [HFM2.out] at e2
  obtain ⟨_,_,_,_,q4,_,_,_⟩:=Yal ((hGG.block _ (lt_of_block HOX.out) (by simp)).trans HOX.out)
  clear hst2
  go_wp2
  go_ret2
  exact ⟨rfl,Yaa HG0.out hGG⟩
end
end
section
section
variable {w w' w1:World} {F:Nat→Prop} {P g cap n all E b k:Nat} {f:Nat→KB} {mv:Value} {ns:List (ByteArray × Nat)} {lv:Nat→Bool} {l A C:List KB} {x:OpM} {bs:List Blk} {p:Nat} {ow:List Int}
theorem StB.live (h:StB w P g cap n all f mv lv) (hk:k<8):w.cell? ⟨P,3+k,none⟩=some (.bool (lv k)):=by
 have hb:=h.box
 refine Yas hb ?_
 rcases (show k=0∨k=1∨k=2∨k=3∨k=4∨k=5∨k=6∨k=7 by omega) with rfl|rfl|rfl|rfl|rfl|rfl|rfl|rfl <;> rfl
theorem Md.live (h:Md w F P all l ns lv) (hk:k<8):w.cell? ⟨P,3+k,none⟩=some (.bool (lv k)):=by
 obtain ⟨g,cap,f,M,hst,_⟩:=h.ex
 exact hst.live hk
set_option maxHeartbeats 2000000 in
theorem mgive_bad (h:Md w F P all l ns lv) (hs:Sane E l) {c:Nat} (hc:c<8) (hne:Ybj (l.map KB.b) x.off [((c:Int)+1)]≠0) :
  Calls Tryz.prog 66 #[.pointer (some ⟨P,0,none⟩),.int .i64 c,.agg (opC x)] w fun e w'=>e=.returned (.agg #[.int .i64 (Ybj (l.map KB.b) x.off [((c:Int)+1)]:Nat),.int .u64 0,.int .u64 0])∧w.grownBy w' none:=by
 obtain ⟨hop,hres,hg0⟩:=Ybq (w:=w) x
 obtain ⟨W0,hW0⟩:∃ W0,((w.alloc (.cells (opC x) 41)).alloc (.cells #[.int .i64 0,.int .u64 0,.int .u64 0] 46))=W0:=⟨_,rfl⟩
 rw [hW0] at hop hres hg0
 have hM0:=h.later hg0
 have HNF:Hid (¬ F (w.heap.size+1)):=Lib.hid (fun hF=>by have:=h.lt _ hF;omega)
 have HNO:Hid (¬ F w.heap.size):=Lib.hid (fun hF=>by have:=h.lt _ hF;omega)
 have HLT:Hid (∀ g,F g→g<W0.heap.size):=Lib.hid (fun g hg=>Nat.lt_of_lt_of_le (h.lt g hg) hg0.size)
 have HLW:=Lib.hid h.lt
 have HRX:=Lib.hid hres
 have HOX:=Lib.hid hop
 have HG0:=Lib.hid hg0
 obtain ⟨o0,o1,o2,o3,o4,o5,o6,o7⟩:=Yal hop
 unfold opC at hW0 ⊢
 have how:=fun V=>Ybg hc V
 obtain ⟨W1,hW1⟩:∃ W1,(W0.alloc (.cells #[.int .i64 ((c:Int)+1)] 3)).drew=W1:=⟨_,rfl⟩
 have hg1:W0.grownBy W1 none:=by rw [← hW1];exact Yah (World.grownBy_alloc _ _ _)
 have hin1:Ycj W1 W0.heap.size [((c:Int)+1)]:=by
  rw [← hW1]
  exact (Ydh W0 _).later (Yah (Yag _ none))
 have hus:=Ycs (hM0.later hg1) hs.lay x.off (ow:=[((c:Int)+1)]) (m:=1) rfl (by decide) hin1 1
 obtain ⟨ui,hui⟩:∃ ui,Yei (l.map KB.b) x.off [((c:Int)+1)]=ui:=⟨_,rfl⟩
 obtain ⟨ue,hue⟩:∃ ue,Ybj (l.map KB.b) x.off [((c:Int)+1)]=ue:=⟨_,rfl⟩
 have p3:W0.drew.cell? ⟨w.heap.size,3,none⟩=some (.int .u64 (x.off:Nat)):=o3
 have p4:W1.cell? ⟨w.heap.size,3,none⟩=some (.int .u64 (x.off:Nat)):=hg1.cell o3 (by simp)
 have p5:(W0.alloc (.cells #[.int .i64 ((c:Int)+1)] 3)).cell? ⟨w.heap.size,3,none⟩=some (.int .u64 (x.off:Nat)):=(World.grownBy_alloc W0 _ none).cell o3 (by simp)
 have HG1:=Lib.hid hg1
 rw [hui,hue] at hus
 rw [hue] at hne ⊢
 have h1:¬ ((ue:Int)=0):=by omega
 have h2:((ue:Int) != 0)=true:=by simp;omega
 have hfl:=fun V=>Ya6 (ue:Int) V
 clear hop hres hg0 hM0 h hui hue hin1 hg1 hne
 go_enter Tryz.func66,Tryz.ntmps66
 go_wp2
 go_region_law (first
  | (go_simp;go_at_call 38;go_must ((with_reducible refine (how _).mono ?_);rintro e v1 ⟨rfl,rfl⟩))
  | (go_simp;go_at_call 88;go_must ((with_reducible refine hus.mono ?_);rintro e w2 ⟨rfl,hg2⟩;have hGG:=Yaa HG1.out hg2)))
 all_goals
  have hbx:=(hGG.block _ (lt_of_block HRX.out) (by simp)).trans HRX.out
  go_wp2_with (go_at_call 33;go_must ((with_reducible refine (hfl _).mono ?_);rintro e w3 ⟨rfl,hg3⟩;have hbx3:=(hg3.block _ (lt_of_block hbx) (by simp)).trans hbx;obtain ⟨y0,y1,y2⟩:=Yaf hbx3;obtain ⟨z0,z1,z2⟩:=Yak hbx3))
  have q:=Yaz hbx3 (x':=.int .i64 (ue:Nat)) (y':=.int .u64 0) (z':=.int .u64 0)
  obtain ⟨k0,k1,k2⟩:=Yaf q
  refine bodyPost_ret (v:=.agg #[.int .i64 (ue:Nat),.int .u64 0,.int .u64 0]) (by simp [results,Tryz.results66,go_sem,k0,k1,k2]) rfl ?_
  exact ⟨rfl,Yap (Yaa (Yam (Yaa HG0.out (Yaa hGG hg3)) (some (w.heap.size+1))) (Yaa (Yac _ _ _ _) (Yaa (Yac _ _ _ _) (Yac _ _ _ _)))) (by omega)⟩
set_option maxHeartbeats 2000000 in
theorem mgive_arg (h:Md w F P all l ns lv) (hs:Sane E l) {c:Nat} (hc:c<8) (hz:Ybj (l.map KB.b) x.off [((c:Int)+1)]=0) (hto:¬ (0≤x.to∧x.to<8)) :
  Calls Tryz.prog 66 #[.pointer (some ⟨P,0,none⟩),.int .i64 c,.agg (opC x)] w fun e w'=>e=.returned (.agg #[.int .i64 1,.int .u64 0,.int .u64 0])∧w.grownBy w' none:=by
 obtain ⟨hop,hres,hg0⟩:=Ybq (w:=w) x
 obtain ⟨W0,hW0⟩:∃ W0,((w.alloc (.cells (opC x) 41)).alloc (.cells #[.int .i64 0,.int .u64 0,.int .u64 0] 46))=W0:=⟨_,rfl⟩
 rw [hW0] at hop hres hg0
 have hM0:=h.later hg0
 have HNF:Hid (¬ F (w.heap.size+1)):=Lib.hid (fun hF=>by have:=h.lt _ hF;omega)
 have HNO:Hid (¬ F w.heap.size):=Lib.hid (fun hF=>by have:=h.lt _ hF;omega)
 have HLT:Hid (∀ g,F g→g<W0.heap.size):=Lib.hid (fun g hg=>Nat.lt_of_lt_of_le (h.lt g hg) hg0.size)
 have HLW:=Lib.hid h.lt
 have HRX:=Lib.hid hres
 have HOX:=Lib.hid hop
 have HG0:=Lib.hid hg0
 obtain ⟨o0,o1,o2,o3,o4,o5,o6,o7⟩:=Yal hop
 unfold opC at hW0 ⊢
 have how:=fun V=>Ybg hc V
 obtain ⟨W1,hW1⟩:∃ W1,(W0.alloc (.cells #[.int .i64 ((c:Int)+1)] 3)).drew=W1:=⟨_,rfl⟩
 have hg1:W0.grownBy W1 none:=by rw [← hW1];exact Yah (World.grownBy_alloc _ _ _)
 have hin1:Ycj W1 W0.heap.size [((c:Int)+1)]:=by
  rw [← hW1]
  exact (Ydh W0 _).later (Yah (Yag _ none))
 have hus:=Ycs (hM0.later hg1) hs.lay x.off (ow:=[((c:Int)+1)]) (m:=1) rfl (by decide) hin1 1
 obtain ⟨ui,hui⟩:∃ ui,Yei (l.map KB.b) x.off [((c:Int)+1)]=ui:=⟨_,rfl⟩
 obtain ⟨ue,hue⟩:∃ ue,Ybj (l.map KB.b) x.off [((c:Int)+1)]=ue:=⟨_,rfl⟩
 have p3:W0.drew.cell? ⟨w.heap.size,3,none⟩=some (.int .u64 (x.off:Nat)):=o3
 have p4:W1.cell? ⟨w.heap.size,3,none⟩=some (.int .u64 (x.off:Nat)):=hg1.cell o3 (by simp)
 have p5:(W0.alloc (.cells #[.int .i64 ((c:Int)+1)] 3)).cell? ⟨w.heap.size,3,none⟩=some (.int .u64 (x.off:Nat)):=(World.grownBy_alloc W0 _ none).cell o3 (by simp)
 have HG1:=Lib.hid hg1
 rw [hui,hz] at hus
 have hcl:=fun V=>Yb9 x.to V
 rw [decide_eq_false hto] at hcl
 have hfl:=fun V=>Ya6 1 V
 clear hop hres hg0 hM0 h hui hue hin1 hg1 hz hto
 go_enter Tryz.func66,Tryz.ntmps66
 go_wp2
 go_region_law (first
  | (go_simp;go_at_call 38;go_must ((with_reducible refine (how _).mono ?_);rintro e v1 ⟨rfl,rfl⟩))
  | (go_simp;go_at_call 88;go_must ((with_reducible refine hus.mono ?_);rintro e w2 ⟨rfl,hg2⟩;have hGG:=Yaa HG1.out hg2)))
 all_goals
  have hbx:=(hGG.block _ (lt_of_block HRX.out) (by simp)).trans HRX.out
  obtain ⟨_,_,_,_,_,_,q6,_⟩:=Yal ((hGG.block _ (lt_of_block HOX.out) (by simp)).trans HOX.out)
  go_wp2_with (first
   | (go_at_call 32;go_must ((with_reducible refine (hcl _).mono ?_);rintro e v3 ⟨rfl,rfl⟩))
   | (go_at_call 33;go_must ((with_reducible refine (hfl _).mono ?_);rintro e w3 ⟨rfl,hg3⟩;have hbx3:=(hg3.block _ (lt_of_block hbx) (by simp)).trans hbx;obtain ⟨y0,y1,y2⟩:=Yaf hbx3;obtain ⟨z0,z1,z2⟩:=Yak hbx3)))
  have q:=Yaz hbx3 (x':=.int .i64 1) (y':=.int .u64 0) (z':=.int .u64 0)
  obtain ⟨k0,k1,k2⟩:=Yaf q
  refine bodyPost_ret (v:=.agg #[.int .i64 1,.int .u64 0,.int .u64 0]) (by simp [results,Tryz.results66,go_sem,k0,k1,k2]) rfl ?_
  exact ⟨rfl,Yap (Yaa (Yam (Yaa HG0.out (Yaa hGG hg3)) (some (w.heap.size+1))) (Yaa (Yac _ _ _ _) (Yaa (Yac _ _ _ _) (Yac _ _ _ _)))) (by omega)⟩
set_option maxHeartbeats 2000000 in
theorem mgive_none (h:Md w F P all l ns lv) (hs:Sane E l) {c:Nat} (hc:c<8) (hz:Ybj (l.map KB.b) x.off [((c:Int)+1)]=0) (hk:k<8) (hto:x.to=(k:Int)) (hlv:lv k=false) :
  Calls Tryz.prog 66 #[.pointer (some ⟨P,0,none⟩),.int .i64 c,.agg (opC x)] w fun e w'=>e=.returned (.agg #[.int .i64 6,.int .u64 0,.int .u64 0])∧w.grownBy w' none:=by
 obtain ⟨hop,hres,hg0⟩:=Ybq (w:=w) x
 obtain ⟨W0,hW0⟩:∃ W0,((w.alloc (.cells (opC x) 41)).alloc (.cells #[.int .i64 0,.int .u64 0,.int .u64 0] 46))=W0:=⟨_,rfl⟩
 rw [hW0] at hop hres hg0
 have hM0:=h.later hg0
 have HNF:Hid (¬ F (w.heap.size+1)):=Lib.hid (fun hF=>by have:=h.lt _ hF;omega)
 have HNO:Hid (¬ F w.heap.size):=Lib.hid (fun hF=>by have:=h.lt _ hF;omega)
 have HLT:Hid (∀ g,F g→g<W0.heap.size):=Lib.hid (fun g hg=>Nat.lt_of_lt_of_le (h.lt g hg) hg0.size)
 have HLW:=Lib.hid h.lt
 have HRX:=Lib.hid hres
 have HOX:=Lib.hid hop
 have HG0:=Lib.hid hg0
 obtain ⟨o0,o1,o2,o3,o4,o5,o6,o7⟩:=Yal hop
 unfold opC at hW0 ⊢
 have how:=fun V=>Ybg hc V
 obtain ⟨W1,hW1⟩:∃ W1,(W0.alloc (.cells #[.int .i64 ((c:Int)+1)] 3)).drew=W1:=⟨_,rfl⟩
 have hg1:W0.grownBy W1 none:=by rw [← hW1];exact Yah (World.grownBy_alloc _ _ _)
 have hin1:Ycj W1 W0.heap.size [((c:Int)+1)]:=by
  rw [← hW1]
  exact (Ydh W0 _).later (Yah (Yag _ none))
 have hus:=Ycs (hM0.later hg1) hs.lay x.off (ow:=[((c:Int)+1)]) (m:=1) rfl (by decide) hin1 1
 obtain ⟨ui,hui⟩:∃ ui,Yei (l.map KB.b) x.off [((c:Int)+1)]=ui:=⟨_,rfl⟩
 obtain ⟨ue,hue⟩:∃ ue,Ybj (l.map KB.b) x.off [((c:Int)+1)]=ue:=⟨_,rfl⟩
 have p3:W0.drew.cell? ⟨w.heap.size,3,none⟩=some (.int .u64 (x.off:Nat)):=o3
 have p4:W1.cell? ⟨w.heap.size,3,none⟩=some (.int .u64 (x.off:Nat)):=hg1.cell o3 (by simp)
 have p5:(W0.alloc (.cells #[.int .i64 ((c:Int)+1)] 3)).cell? ⟨w.heap.size,3,none⟩=some (.int .u64 (x.off:Nat)):=(World.grownBy_alloc W0 _ none).cell o3 (by simp)
 have HG1:=Lib.hid hg1
 rw [hui,hz] at hus
 have hcl:=fun V=>Yb9 x.to V
 rw [decide_eq_true (show 0≤x.to∧x.to<8 by omega)] at hcl
 rw [hto] at hcl
 have hfl:=fun V=>Ya6 6 V
 have HMD:=Lib.hid hM0
 have HTO:=Lib.hid hto
 have hk8:(k:Int)<8:=by omega
 clear hop hres hg0 hM0 h hui hue hin1 hg1 hz hto
 go_enter Tryz.func66,Tryz.ntmps66
 go_wp2
 go_region_law (first
  | (go_simp;go_at_call 38;go_must ((with_reducible refine (how _).mono ?_);rintro e v1 ⟨rfl,rfl⟩))
  | (go_simp;go_at_call 88;go_must ((with_reducible refine hus.mono ?_);rintro e w2 ⟨rfl,hg2⟩;have hGG:=Yaa HG1.out hg2)))
 all_goals
  have hbx:=(hGG.block _ (lt_of_block HRX.out) (by simp)).trans HRX.out
  have hob:=(hGG.block _ (lt_of_block HOX.out) (by simp)).trans HOX.out
  obtain ⟨_,_,_,_,_,_,q6,_⟩:=Yal hob
  rw [HTO.out] at q6
  have hlc:=(HMD.out.later hGG).live hk
  rw [hlv] at hlc
  go_wp2_with (first
   | (go_at_call 32;go_must ((with_reducible refine (hcl _).mono ?_);rintro e v3 ⟨rfl,rfl⟩)))
  go_quiet (fail)
  obtain ⟨w5,hw5⟩:∃ w5,w5=w2.drewN nq:=⟨_,rfl⟩
  have hg5:w2.grownBy w5 none:=by rw [hw5];exact Ybl _ _
  rw [← hw5]
  clear hw5
  replace hbx:=(hg5.block _ (lt_of_block hbx) (by simp)).trans hbx
  replace hGG:=Yaa hGG hg5
  go_wp2_with (first
   | (go_at_call 33;go_must ((with_reducible refine (hfl _).mono ?_);rintro e w3 ⟨rfl,hg3⟩;have hbx3:=(hg3.block _ (lt_of_block hbx) (by simp)).trans hbx;obtain ⟨y0,y1,y2⟩:=Yaf hbx3;obtain ⟨z0,z1,z2⟩:=Yak hbx3)))
  have q:=Yaz hbx3 (x':=.int .i64 6) (y':=.int .u64 0) (z':=.int .u64 0)
  obtain ⟨k0,k1,k2⟩:=Yaf q
  refine bodyPost_ret (v:=.agg #[.int .i64 6,.int .u64 0,.int .u64 0]) (by simp [results,Tryz.results66,go_sem,k0,k1,k2]) rfl ?_
  exact ⟨rfl,Yap (Yaa (Yam (Yaa HG0.out (Yaa hGG hg3)) (some (w.heap.size+1))) (Yaa (Yac _ _ _ _) (Yaa (Yac _ _ _ _) (Yac _ _ _ _)))) (by omega)⟩
set_option maxHeartbeats 4000000 in
theorem mgive_ok (h:Md w F P all l ns lv) (hs:Sane E l) {c:Nat} (hc:c<8) (hz:Ybj (l.map KB.b) x.off [((c:Int)+1)]=0) (hk8:k<8) (hto:x.to=(k:Int)) (hlv:lv k=true) {i:Nat} (hi:fstN (pF x.off) (l.map KB.b)=some i) {y:KB} (hl:l=A++y::C) (hA:A.length=i) :
  Calls Tryz.prog 66 #[.pointer (some ⟨P,0,none⟩),.int .i64 c,.agg (opC x)] w fun e w'=>e=.returned (.agg #[.int .i64 0,.int .u64 0,.int .u64 0])∧MdR w w' F P all (A++y.own ((k:Int)+1)::C) ns lv:=by
 obtain ⟨hop,hres,hg0⟩:=Ybq (w:=w) x
 obtain ⟨W0,hW0⟩:∃ W0,((w.alloc (.cells (opC x) 41)).alloc (.cells #[.int .i64 0,.int .u64 0,.int .u64 0] 46))=W0:=⟨_,rfl⟩
 rw [hW0] at hop hres hg0
 have hM0:=h.later hg0
 have HNF:Hid (¬ F (w.heap.size+1)):=Lib.hid (fun hF=>by have:=h.lt _ hF;omega)
 have HNO:Hid (¬ F w.heap.size):=Lib.hid (fun hF=>by have:=h.lt _ hF;omega)
 have HLT:Hid (∀ g,F g→g<W0.heap.size):=Lib.hid (fun g hg=>Nat.lt_of_lt_of_le (h.lt g hg) hg0.size)
 have HLW:=Lib.hid h.lt
 have HRX:=Lib.hid hres
 have HOX:=Lib.hid hop
 have HG0:=Lib.hid hg0
 obtain ⟨o0,o1,o2,o3,o4,o5,o6,o7⟩:=Yal hop
 unfold opC at hW0 ⊢
 have how:=fun V=>Ybg hc V
 obtain ⟨W1,hW1⟩:∃ W1,(W0.alloc (.cells #[.int .i64 ((c:Int)+1)] 3)).drew=W1:=⟨_,rfl⟩
 have hg1:W0.grownBy W1 none:=by rw [← hW1];exact Yah (World.grownBy_alloc _ _ _)
 have hin1:Ycj W1 W0.heap.size [((c:Int)+1)]:=by
  rw [← hW1]
  exact (Ydh W0 _).later (Yah (Yag _ none))
 have hus:=Ycs (hM0.later hg1) hs.lay x.off (ow:=[((c:Int)+1)]) (m:=1) rfl (by decide) hin1 1
 obtain ⟨ui,hui⟩:∃ ui,Yei (l.map KB.b) x.off [((c:Int)+1)]=ui:=⟨_,rfl⟩
 obtain ⟨ue,hue⟩:∃ ue,Ybj (l.map KB.b) x.off [((c:Int)+1)]=ue:=⟨_,rfl⟩
 have p3:W0.drew.cell? ⟨w.heap.size,3,none⟩=some (.int .u64 (x.off:Nat)):=o3
 have p4:W1.cell? ⟨w.heap.size,3,none⟩=some (.int .u64 (x.off:Nat)):=hg1.cell o3 (by simp)
 have p5:(W0.alloc (.cells #[.int .i64 ((c:Int)+1)] 3)).cell? ⟨w.heap.size,3,none⟩=some (.int .u64 (x.off:Nat)):=(World.grownBy_alloc W0 _ none).cell o3 (by simp)
 have HG1:=Lib.hid hg1
 obtain ⟨i',hi1,_,hi3⟩:=Ycm hz
 have hii:ui=i:=by rw [hi] at hi1;injection hi1 with hi1;rw [← hui,hi3,hi1]
 rw [hui,hz,hii] at hus
 have hcl:=fun V=>Yb9 x.to V
 rw [decide_eq_true (show 0≤x.to∧x.to<8 by omega)] at hcl
 rw [hto] at hcl
 have how2:=fun V=>Ybg hk8 V
 obtain ⟨g,cap,f,M,hst,hk,hPg,hFg,hFM,hmp⟩:=hM0.ex
 obtain ⟨n,hn⟩:∃ n,l.length=n:=⟨_,rfl⟩
 rw [hn] at hst hk
 have hk2:=hk
 rw [hl] at hk2
 obtain ⟨hfi,hin,_⟩:=Ybn hk2 hA y
 have hin':(i:Int)<(n:Int):=by omega
 have HST:=Lib.hid hst
 have HM0:=Lib.hid hM0
 have HK:=Lib.hid hk2
 have HFI:=Lib.hid hfi
 have HN:=Lib.hid hn
 have HTO:=Lib.hid hto
 have hk8':(k:Int)<8:=by omega
 have HPN:=Lib.hid (And.intro hPg (And.intro hFg (And.intro hFM hmp)))
 clear hop hres hg0 hM0 h hui hue hin1 hg1 hz hi hi1 hi3 hii hst hk hk2 hfi hmp hn hto
 go_enter Tryz.func66,Tryz.ntmps66
 go_wp2
 go_region_law (first
  | (go_simp;go_at_call 38;go_must ((with_reducible refine (how _).mono ?_);rintro e v1 ⟨rfl,rfl⟩))
  | (go_simp;go_at_call 88;go_must ((with_reducible refine hus.mono ?_);rintro e w2 ⟨rfl,hg2⟩;have hGG:=Yaa HG1.out hg2)))
 all_goals
  have hob:=(hGG.block _ (lt_of_block HOX.out) (by simp)).trans HOX.out
  obtain ⟨_,_,_,_,_,_,q6,_⟩:=Yal hob
  rw [HTO.out] at q6
  have hlc:=(HST.out.later hGG).live hk8
  rw [hlv] at hlc
  go_wp2_with (first
   | (go_at_call 32;go_must ((with_reducible refine (hcl _).mono ?_);rintro e v3 ⟨rfl,rfl⟩)))
  go_quiet (fail)
  obtain ⟨w5,hw5⟩:∃ w5,w5=w2.drewN nq:=⟨_,rfl⟩
  have hg5:w2.grownBy w5 none:=by rw [hw5];exact Ybl _ _
  rw [← hw5]
  clear hw5
  have hG5:=Yaa hGG hg5
  go_wp2
  have hG6:=Yaa hG5 (Yah (Yag w5 none))
  have hst2:=HST.out.later hG5
  have e1:w5.drew.cell? ⟨P,1,none⟩=some (.slice (some ⟨g,0,none⟩) n cap):=hst2.cells.2.1
  have e2:w5.drew.cell? ⟨g,i*6+3,none⟩=some (.int .i64 (f i).b.o):=(hst2.row.cells hin).2.2.2.1
  have e3:w5.drew.frozen? ⟨g,i*6+3,none⟩=false:=hst2.row.frz (i*6+3)
  have e4:w5.drew.cell? ⟨w.heap.size,6,none⟩=some (.int .i64 (k:Int)):=hg5.cell q6 (by simp)
  have hr3:=hst2.row.set (v:=.int .i64 ((k:Int)+1)) (x:=y.own ((k:Int)+1)) hin (show 3<6 by decide) (by rw [HFI.out];rfl)
  have hg3:w5.grownBy ((w5.setCell ⟨g,i*6+3,none⟩ (.int .i64 ((k:Int)+1))).drew) (some g):=Yaa (Yac w5 g (i*6+3) (.int .i64 ((k:Int)+1))) (Yam (Yah (Yag _ none)) _)
  have hM2:Md w5 F P all (A++y::C) ns lv:=by rw [← hl];exact HM0.out.later hG5
  have hput:=hM2.put hst2 (by rw [← hl];exact HN.out) HK.out HPN.out.1 HPN.out.2.1 HPN.out.2.2.1 (HPN.out.2.2.2.later hG5) hA (hr3.later (Yah (Yag _ none))) hg3 (.inr ⟨rfl,rfl,fun h=>h⟩)
  obtain ⟨W5,hW5⟩:∃ W5,(w5.setCell ⟨g,i*6+3,none⟩ (.int .i64 ((k:Int)+1))).drew=W5:=⟨_,rfl⟩
  have HW5:=Lib.hid hW5
  rw [hW5] at hput
  have hM5:=MdR.first hG5 hput HLT.out
  have hbx3:=Yay hM5.2 HRX.out HNF.out
  obtain ⟨y0,y1,y2⟩:=Yaf hbx3
  obtain ⟨z0,z1,z2⟩:=Yak hbx3
  have HM5:=Lib.hid hM5
  clear hr3 hg3 hM2 hput hM5 hst2 hW5
  go_region_law (first
   | (go_simp;go_at_call 38;go_must ((with_reducible refine (how2 _).mono ?_);rintro e v1 ⟨rfl,rfl⟩)))
  all_goals
   rw [HW5.out]
   go_wp2
   have q:=Yaz hbx3 (x':=.int .i64 0) (y':=.int .u64 0) (z':=.int .u64 0)
   obtain ⟨k0,k1,k2⟩:=Yaf q
   refine bodyPost_ret (v:=.agg #[.int .i64 0,.int .u64 0,.int .u64 0]) (by simp [results,Tryz.results66,go_sem,k0,k1,k2]) rfl ?_
   exact ⟨rfl,HM5.out.boxed HG0.out HLW.out (by omega) hbx3 (by decide) (by decide) (by decide) (Yaa (Yac _ _ _ _) (Yaa (Yac _ _ _ _) (Yac _ _ _ _)))⟩
end
end
section
section
variable {w w' w1:World} {F:Nat→Prop} {P all E c i:Nat} {ns:List (ByteArray × Nat)} {lv:Nat→Bool} {l A C:List KB} {y:KB} {x:OpM}
set_option maxHeartbeats 2000000 in
theorem mwrite_bad (h:Md w F P all l ns lv) (hs:Sane E l) (hc:c<8) (hne:Ybj (l.map KB.b) x.off [0,((c:Int)+1)]≠0) :
  Calls Tryz.prog 60 #[.pointer (some ⟨P,0,none⟩),.int .i64 c,.agg (opC x)] w fun e w'=>e=.returned (.agg #[.int .i64 (Ybj (l.map KB.b) x.off [0,((c:Int)+1)]:Nat),.int .u64 0,.int .u64 0])∧w.grownBy w' none:=by
 obtain ⟨hop,hres,hg0⟩:=Ybq (w:=w) x
 obtain ⟨W0,hW0⟩:∃ W0,((w.alloc (.cells (opC x) 41)).alloc (.cells #[.int .i64 0,.int .u64 0,.int .u64 0] 46))=W0:=⟨_,rfl⟩
 rw [hW0] at hop hres hg0
 have hM0:=h.later hg0
 have HNF:Hid (¬ F (w.heap.size+1)):=Lib.hid (fun hF=>by have:=h.lt _ hF;omega)
 have HNO:Hid (¬ F w.heap.size):=Lib.hid (fun hF=>by have:=h.lt _ hF;omega)
 have HLT:Hid (∀ g,F g→g<W0.heap.size):=Lib.hid (fun g hg=>Nat.lt_of_lt_of_le (h.lt g hg) hg0.size)
 have HLW:=Lib.hid h.lt
 have HRX:=Lib.hid hres
 have HOX:=Lib.hid hop
 have HG0:=Lib.hid hg0
 obtain ⟨o0,o1,o2,o3,o4,o5,o6,o7⟩:=Yal hop
 unfold opC at hW0 ⊢
 have hwo:=mwordOf_bad hM0 hs hc hne
 unfold opC at hwo
 obtain ⟨ue,hue⟩:∃ ue,Ybj (l.map KB.b) x.off [0,((c:Int)+1)]=ue:=⟨_,rfl⟩
 rw [hue] at hwo hne ⊢
 have h1:¬ ((ue:Int)=0):=by omega
 have h2:((ue:Int) != 0)=true:=by simp;omega
 have hfl:=fun V=>Ya6 (ue:Int) V
 clear hop hres hg0 hM0 h hue hne
 go_enter Tryz.func60,Tryz.ntmps60
 go_wp2_with (first
  | (go_at_call 94;go_must ((with_reducible refine hwo.mono ?_);rintro e w2 ⟨rfl,hg2⟩;have hbx:=(hg2.block _ (lt_of_block HRX.out) (by simp)).trans HRX.out))
  | (go_at_call 33;go_must ((with_reducible refine (hfl _).mono ?_);rintro e w3 ⟨rfl,hg3⟩;have hbx3:=(hg3.block _ (lt_of_block hbx) (by simp)).trans hbx;obtain ⟨y0,y1,y2⟩:=Yaf hbx3;obtain ⟨z0,z1,z2⟩:=Yak hbx3)))
 have q:=Yaz hbx3 (x':=.int .i64 (ue:Nat)) (y':=.int .u64 0) (z':=.int .u64 0)
 obtain ⟨k0,k1,k2⟩:=Yaf q
 refine bodyPost_ret (v:=.agg #[.int .i64 (ue:Nat),.int .u64 0,.int .u64 0]) (by simp [results,Tryz.results60,go_sem,k0,k1,k2]) rfl ?_
 exact ⟨rfl,Yap (Yaa (Yam (Yaa HG0.out (Yaa hg2 hg3)) (some (w.heap.size+1))) (Yaa (Yac _ _ _ _) (Yaa (Yac _ _ _ _) (Yac _ _ _ _)))) (by omega)⟩
set_option maxHeartbeats 2000000 in
theorem mwrite_out (h:Md w F P all l ns lv) (hs:Sane E l) (hc:c<8) (hxi:x.i<18446744073709551616) (hz:Ybj (l.map KB.b) x.off [0,((c:Int)+1)]=0) (hi:fstN (pF x.off) (l.map KB.b)=some i) (hl:l=A++y::C) (hA:A.length=i) (hds:y.d.length≤1000000) (hlt:¬ x.i<y.d.length) :
  Calls Tryz.prog 60 #[.pointer (some ⟨P,0,none⟩),.int .i64 c,.agg (opC x)] w fun e w'=>e=.returned (.agg #[.int .i64 1,.int .u64 0,.int .u64 0])∧w.grownBy w' none:=by
 obtain ⟨hop,hres,hg0⟩:=Ybq (w:=w) x
 obtain ⟨W0,hW0⟩:∃ W0,((w.alloc (.cells (opC x) 41)).alloc (.cells #[.int .i64 0,.int .u64 0,.int .u64 0] 46))=W0:=⟨_,rfl⟩
 rw [hW0] at hop hres hg0
 have hM0:=h.later hg0
 have HNF:Hid (¬ F (w.heap.size+1)):=Lib.hid (fun hF=>by have:=h.lt _ hF;omega)
 have HNO:Hid (¬ F w.heap.size):=Lib.hid (fun hF=>by have:=h.lt _ hF;omega)
 have HLT:Hid (∀ g,F g→g<W0.heap.size):=Lib.hid (fun g hg=>Nat.lt_of_lt_of_le (h.lt g hg) hg0.size)
 have HLW:=Lib.hid h.lt
 have HRX:=Lib.hid hres
 have HOX:=Lib.hid hop
 have HG0:=Lib.hid hg0
 obtain ⟨o0,o1,o2,o3,o4,o5,o6,o7⟩:=Yal hop
 unfold opC at hW0 ⊢
 have hwo:=mwordOf_out hM0 hs hc hxi hz hi hl hA hds hlt
 unfold opC at hwo
 have hfl:=fun V=>Ya6 1 V
 clear hop hres hg0 hM0 h hz hi hlt
 go_enter Tryz.func60,Tryz.ntmps60
 go_wp2_with (first
  | (go_at_call 94;go_must ((with_reducible refine hwo.mono ?_);rintro e w2 ⟨rfl,hg2⟩;have hbx:=(hg2.block _ (lt_of_block HRX.out) (by simp)).trans HRX.out))
  | (go_at_call 33;go_must ((with_reducible refine (hfl _).mono ?_);rintro e w3 ⟨rfl,hg3⟩;have hbx3:=(hg3.block _ (lt_of_block hbx) (by simp)).trans hbx;obtain ⟨y0,y1,y2⟩:=Yaf hbx3;obtain ⟨z0,z1,z2⟩:=Yak hbx3)))
 have q:=Yaz hbx3 (x':=.int .i64 1) (y':=.int .u64 0) (z':=.int .u64 0)
 obtain ⟨k0,k1,k2⟩:=Yaf q
 refine bodyPost_ret (v:=.agg #[.int .i64 1,.int .u64 0,.int .u64 0]) (by simp [results,Tryz.results60,go_sem,k0,k1,k2]) rfl ?_
 exact ⟨rfl,Yap (Yaa (Yam (Yaa HG0.out (Yaa hg2 hg3)) (some (w.heap.size+1))) (Yaa (Yac _ _ _ _) (Yaa (Yac _ _ _ _) (Yac _ _ _ _)))) (by omega)⟩
set_option maxHeartbeats 2000000 in
theorem mread_bad (h:Md w F P all l ns lv) (hs:Sane E l) (hc:c<8) (hne:Ybj (l.map KB.b) x.off [0,((c:Int)+1)]≠0) :
  Calls Tryz.prog 61 #[.pointer (some ⟨P,0,none⟩),.int .i64 c,.agg (opC x)] w fun e w'=>e=.returned (.agg #[.int .i64 (Ybj (l.map KB.b) x.off [0,((c:Int)+1)]:Nat),.int .u64 0,.int .u64 0])∧w.grownBy w' none:=by
 obtain ⟨hop,hres,hg0⟩:=Ybq (w:=w) x
 obtain ⟨W0,hW0⟩:∃ W0,((w.alloc (.cells (opC x) 41)).alloc (.cells #[.int .i64 0,.int .u64 0,.int .u64 0] 46))=W0:=⟨_,rfl⟩
 rw [hW0] at hop hres hg0
 have hM0:=h.later hg0
 have HNF:Hid (¬ F (w.heap.size+1)):=Lib.hid (fun hF=>by have:=h.lt _ hF;omega)
 have HNO:Hid (¬ F w.heap.size):=Lib.hid (fun hF=>by have:=h.lt _ hF;omega)
 have HLT:Hid (∀ g,F g→g<W0.heap.size):=Lib.hid (fun g hg=>Nat.lt_of_lt_of_le (h.lt g hg) hg0.size)
 have HLW:=Lib.hid h.lt
 have HRX:=Lib.hid hres
 have HOX:=Lib.hid hop
 have HG0:=Lib.hid hg0
 obtain ⟨o0,o1,o2,o3,o4,o5,o6,o7⟩:=Yal hop
 unfold opC at hW0 ⊢
 have hwo:=mwordOf_bad hM0 hs hc hne
 unfold opC at hwo
 obtain ⟨ue,hue⟩:∃ ue,Ybj (l.map KB.b) x.off [0,((c:Int)+1)]=ue:=⟨_,rfl⟩
 rw [hue] at hwo hne ⊢
 have h1:¬ ((ue:Int)=0):=by omega
 have h2:((ue:Int) != 0)=true:=by simp;omega
 have hfl:=fun V=>Ya6 (ue:Int) V
 clear hop hres hg0 hM0 h hue hne
 go_enter Tryz.func61,Tryz.ntmps61
 go_wp2_with (first
  | (go_at_call 94;go_must ((with_reducible refine hwo.mono ?_);rintro e w2 ⟨rfl,hg2⟩;have hbx:=(hg2.block _ (lt_of_block HRX.out) (by simp)).trans HRX.out))
  | (go_at_call 33;go_must ((with_reducible refine (hfl _).mono ?_);rintro e w3 ⟨rfl,hg3⟩;have hbx3:=(hg3.block _ (lt_of_block hbx) (by simp)).trans hbx;obtain ⟨y0,y1,y2⟩:=Yaf hbx3;obtain ⟨z0,z1,z2⟩:=Yak hbx3)))
 have q:=Yaz hbx3 (x':=.int .i64 (ue:Nat)) (y':=.int .u64 0) (z':=.int .u64 0)
 obtain ⟨k0,k1,k2⟩:=Yaf q
 refine bodyPost_ret (v:=.agg #[.int .i64 (ue:Nat),.int .u64 0,.int .u64 0]) (by simp [results,Tryz.results61,go_sem,k0,k1,k2]) rfl ?_
 exact ⟨rfl,Yap (Yaa (Yam (Yaa HG0.out (Yaa hg2 hg3)) (some (w.heap.size+1))) (Yaa (Yac _ _ _ _) (Yaa (Yac _ _ _ _) (Yac _ _ _ _)))) (by omega)⟩
set_option maxHeartbeats 2000000 in
theorem mread_out (h:Md w F P all l ns lv) (hs:Sane E l) (hc:c<8) (hxi:x.i<18446744073709551616) (hz:Ybj (l.map KB.b) x.off [0,((c:Int)+1)]=0) (hi:fstN (pF x.off) (l.map KB.b)=some i) (hl:l=A++y::C) (hA:A.length=i) (hds:y.d.length≤1000000) (hlt:¬ x.i<y.d.length) :
  Calls Tryz.prog 61 #[.pointer (some ⟨P,0,none⟩),.int .i64 c,.agg (opC x)] w fun e w'=>e=.returned (.agg #[.int .i64 1,.int .u64 0,.int .u64 0])∧w.grownBy w' none:=by
 obtain ⟨hop,hres,hg0⟩:=Ybq (w:=w) x
 obtain ⟨W0,hW0⟩:∃ W0,((w.alloc (.cells (opC x) 41)).alloc (.cells #[.int .i64 0,.int .u64 0,.int .u64 0] 46))=W0:=⟨_,rfl⟩
 rw [hW0] at hop hres hg0
 have hM0:=h.later hg0
 have HNF:Hid (¬ F (w.heap.size+1)):=Lib.hid (fun hF=>by have:=h.lt _ hF;omega)
 have HNO:Hid (¬ F w.heap.size):=Lib.hid (fun hF=>by have:=h.lt _ hF;omega)
 have HLT:Hid (∀ g,F g→g<W0.heap.size):=Lib.hid (fun g hg=>Nat.lt_of_lt_of_le (h.lt g hg) hg0.size)
 have HLW:=Lib.hid h.lt
 have HRX:=Lib.hid hres
 have HOX:=Lib.hid hop
 have HG0:=Lib.hid hg0
 obtain ⟨o0,o1,o2,o3,o4,o5,o6,o7⟩:=Yal hop
 unfold opC at hW0 ⊢
 have hwo:=mwordOf_out hM0 hs hc hxi hz hi hl hA hds hlt
 unfold opC at hwo
 have hfl:=fun V=>Ya6 1 V
 clear hop hres hg0 hM0 h hz hi hlt
 go_enter Tryz.func61,Tryz.ntmps61
 go_wp2_with (first
  | (go_at_call 94;go_must ((with_reducible refine hwo.mono ?_);rintro e w2 ⟨rfl,hg2⟩;have hbx:=(hg2.block _ (lt_of_block HRX.out) (by simp)).trans HRX.out))
  | (go_at_call 33;go_must ((with_reducible refine (hfl _).mono ?_);rintro e w3 ⟨rfl,hg3⟩;have hbx3:=(hg3.block _ (lt_of_block hbx) (by simp)).trans hbx;obtain ⟨y0,y1,y2⟩:=Yaf hbx3;obtain ⟨z0,z1,z2⟩:=Yak hbx3)))
 have q:=Yaz hbx3 (x':=.int .i64 1) (y':=.int .u64 0) (z':=.int .u64 0)
 obtain ⟨k0,k1,k2⟩:=Yaf q
 refine bodyPost_ret (v:=.agg #[.int .i64 1,.int .u64 0,.int .u64 0]) (by simp [results,Tryz.results61,go_sem,k0,k1,k2]) rfl ?_
 exact ⟨rfl,Yap (Yaa (Yam (Yaa HG0.out (Yaa hg2 hg3)) (some (w.heap.size+1))) (Yaa (Yac _ _ _ _) (Yaa (Yac _ _ _ _) (Yac _ _ _ _)))) (by omega)⟩
set_option maxHeartbeats 2000000 in
theorem mwrite_ok (h:Md w F P all l ns lv) (hs:Sane E l) (hc:c<8) (hxi:x.i<18446744073709551616) (hz:Ybj (l.map KB.b) x.off [0,((c:Int)+1)]=0) (hi:fstN (pF x.off) (l.map KB.b)=some i) (hl:l=A++y::C) (hA:A.length=i) (hds:y.d.length≤1000000) (hlt:x.i<y.d.length) :
  Calls Tryz.prog 60 #[.pointer (some ⟨P,0,none⟩),.int .i64 c,.agg (opC x)] w fun e w'=>e=.returned (.agg #[.int .i64 0,.int .u64 0,.int .u64 0])∧MdR w w' F P all (A++y.worded x.i x.v::C) ns lv:=by
 obtain ⟨hop,hres,hg0⟩:=Ybq (w:=w) x
 obtain ⟨W0,hW0⟩:∃ W0,((w.alloc (.cells (opC x) 41)).alloc (.cells #[.int .i64 0,.int .u64 0,.int .u64 0] 46))=W0:=⟨_,rfl⟩
 rw [hW0] at hop hres hg0
 have hM0:=h.later hg0
 have HNF:Hid (¬ F (w.heap.size+1)):=Lib.hid (fun hF=>by have:=h.lt _ hF;omega)
 have HNO:Hid (¬ F w.heap.size):=Lib.hid (fun hF=>by have:=h.lt _ hF;omega)
 have HLT:Hid (∀ g,F g→g<W0.heap.size):=Lib.hid (fun g hg=>Nat.lt_of_lt_of_le (h.lt g hg) hg0.size)
 have HLW:=Lib.hid h.lt
 have HRX:=Lib.hid hres
 have HOX:=Lib.hid hop
 have HG0:=Lib.hid hg0
 obtain ⟨o0,o1,o2,o3,o4,o5,o6,o7⟩:=Yal hop
 unfold opC at hW0 ⊢
 have hwo:=mwordOf_in hM0 hs hc hxi hz hi hl hA hds hlt
 unfold opC at hwo
 have hM1:Md W0 F P all (A++y::C) ns lv:=by rw [← hl];exact hM0
 have HM1:=Lib.hid hM1
 have HLT2:=Lib.hid hlt
 clear hop hres hg0 hM0 h hz hi hlt hM1
 go_enter Tryz.func60,Tryz.ntmps60
 go_wp2_with (first
  | (go_at_call 94;go_must ((with_reducible refine hwo.mono ?_);rintro e w2 ⟨N,hN,rfl,hg2⟩;have hq:=(HM1.out.later hg2).word hN HLT2.out x.v;have e1:=hq.2.1;have e2:=hq.2.2;have HR:=Lib.hid (MdR.first hg2 hq.1 HLT.out);clear hq;have hob:=(hg2.block _ (lt_of_block HOX.out) (by simp)).trans HOX.out;obtain ⟨_,_,_,_,_,q5,_,_⟩:=Yal hob;obtain ⟨W5,hW5⟩:∃ W5,w2.setCell ⟨N,x.i,none⟩ (.int .u64 (x.v:Nat))=W5:=⟨_,rfl⟩;rw [hW5] at HR;have hbx3:=Yay HR.out.2 HRX.out HNF.out;obtain ⟨y0,y1,y2⟩:=Yaf hbx3;obtain ⟨z0,z1,z2⟩:=Yak hbx3)))
 have q:=Yaz hbx3 (x':=.int .i64 0) (y':=.int .u64 0) (z':=.int .u64 0)
 obtain ⟨k0,k1,k2⟩:=Yaf q
 refine bodyPost_ret (v:=.agg #[.int .i64 0,.int .u64 0,.int .u64 0]) (by simp [results,Tryz.results60,go_sem,k0,k1,k2]) rfl ?_
 exact ⟨rfl,HR.out.boxed HG0.out HLW.out (by omega) hbx3 (by decide) (by decide) (by decide) (Yaa (Yac _ _ _ _) (Yaa (Yac _ _ _ _) (Yac _ _ _ _)))⟩
set_option maxHeartbeats 2000000 in
theorem mread_ok (h:Md w F P all l ns lv) (hs:Sane E l) (hc:c<8) (hxi:x.i<18446744073709551616) (hz:Ybj (l.map KB.b) x.off [0,((c:Int)+1)]=0) (hi:fstN (pF x.off) (l.map KB.b)=some i) (hl:l=A++y::C) (hA:A.length=i) (hds:y.d.length≤1000000) (hlt:x.i<y.d.length) :
  Calls Tryz.prog 61 #[.pointer (some ⟨P,0,none⟩),.int .i64 c,.agg (opC x)] w fun e w'=>e=.returned (.agg #[.int .i64 0,.int .u64 0,.int .u64 (y.d.getD x.i 0:Nat)])∧w.grownBy w' none:=by
 obtain ⟨hop,hres,hg0⟩:=Ybq (w:=w) x
 obtain ⟨W0,hW0⟩:∃ W0,((w.alloc (.cells (opC x) 41)).alloc (.cells #[.int .i64 0,.int .u64 0,.int .u64 0] 46))=W0:=⟨_,rfl⟩
 rw [hW0] at hop hres hg0
 have hM0:=h.later hg0
 have HNF:Hid (¬ F (w.heap.size+1)):=Lib.hid (fun hF=>by have:=h.lt _ hF;omega)
 have HNO:Hid (¬ F w.heap.size):=Lib.hid (fun hF=>by have:=h.lt _ hF;omega)
 have HLT:Hid (∀ g,F g→g<W0.heap.size):=Lib.hid (fun g hg=>Nat.lt_of_lt_of_le (h.lt g hg) hg0.size)
 have HLW:=Lib.hid h.lt
 have HRX:=Lib.hid hres
 have HOX:=Lib.hid hop
 have HG0:=Lib.hid hg0
 obtain ⟨o0,o1,o2,o3,o4,o5,o6,o7⟩:=Yal hop
 unfold opC at hW0 ⊢
 have hwo:=mwordOf_in hM0 hs hc hxi hz hi hl hA hds hlt
 unfold opC at hwo
 have hM1:Md W0 F P all (A++y::C) ns lv:=by rw [← hl];exact hM0
 have HM1:=Lib.hid hM1
 have HLT2:=Lib.hid hlt
 obtain ⟨vv,hvv⟩:∃ vv,y.d.getD x.i 0=vv:=⟨_,rfl⟩
 rw [hvv]
 have HVV:=Lib.hid hvv
 clear hop hres hg0 hM0 h hz hi hlt hM1 hvv
 go_enter Tryz.func61,Tryz.ntmps61
 go_wp2_with (first
  | (go_at_call 94;go_must ((with_reducible refine hwo.mono ?_);rintro e w2 ⟨N,hN,rfl,hg2⟩;have hq:=(HM1.out.later hg2).word hN HLT2.out x.v;have e1:=hq.2.1;rw [HVV.out] at e1;clear hq;have hbx3:=(hg2.block _ (lt_of_block HRX.out) (by simp)).trans HRX.out;obtain ⟨y0,y1,y2⟩:=Yaf hbx3;obtain ⟨z0,z1,z2⟩:=Yak hbx3)))
 have q:=Yaz hbx3 (x':=.int .i64 0) (y':=.int .u64 0) (z':=.int .u64 (vv:Nat))
 obtain ⟨k0,k1,k2⟩:=Yaf q
 refine bodyPost_ret (v:=.agg #[.int .i64 0,.int .u64 0,.int .u64 (vv:Nat)]) (by simp [results,Tryz.results61,go_sem,k0,k1,k2]) rfl ?_
 exact ⟨rfl,Yap (Yaa (Yam (Yaa HG0.out hg2) (some (w.heap.size+1))) (Yaa (Yac _ _ _ _) (Yaa (Yac _ _ _ _) (Yac _ _ _ _)))) (by omega)⟩
end
end
end Go.Proofs.YtfhiljglfhekdaaGreat
