/-
  Texts of one layer, one behind the other: memory, contracts of the functions, and what follows of them.
  Conditions: as each theorem says.
-/
import Derived.Test.YtfhiljglfhekdaaGreatLKfb
import Derived.Test.YtfhiljglfhekdaaGreatLMpb
import Derived.Test.YtfhiljglfhekdaaGreatLKfa
import Derived.Test.YtfhiljglfhekdaaGreatLHsb
import Derived.Test.YtfhiljglfhekdaaGreatLKcg
import Derived.Deep.QuietTactic
import Derived.BigQuiet
import Derived.Deep.LoopGhost
import Derived.Test.YtfhiljglfhekdaaGreatLMob
set_option linter.unusedVariables false
set_option linter.unusedSimpArgs false
set_option maxRecDepth 100000
namespace Go.Proofs.YtfhiljglfhekdaaGreat
open Go.RowKit
section
theorem OwnBk.mono {w:World} {bo bi bo':Nat} {v:Value} {l:List KB} (h:OwnBk w bo bi v l) (hb:bo'≤bo):OwnBk w bo' bi v l:=⟨World.ownsRow.mono h.1 hb,h.2⟩
theorem OwnBk.past {w w':World} {bo bi b:Nat} {v:Value} {l:List KB} {cs:Array Value} (h:OwnBk w bo bi v l) (hg:w.grownBy w' (some b)) (hb:w.heap[b]?=some (.cells cs 83 (0,0))) (hn:v.ownBlock≠some b):OwnBk w' bo bi v l :=
 ⟨World.ownsRow.kept h.1 hg (.inr hn),fun t ht=>Ya8 (h.2 t ht) hg hb (by decide)⟩
structure BlI (w:World) (base:Nat) (S:MS) (W0:World) (v:Value) (k:Nat) (W:World):Prop where
 ex:∃ l,OwnBk W W0.heap.size base v l∧l.length=k∧l.map KB.b=S.bs.take k∧∀ x∈l,x.d=if x.b.u=true then datL S.ds (x.b.off+32) else []
 gr:W0.grownBy W none
section
variable {w w' W:World} {F:Nat→Prop} {base all K c i:Nat} {v:Value} {S:MS}
set_option maxHeartbeats 4000000 in
theorem rblocks14 (h:StIs w F base v all S) (hlen:S.bs.length≤1000) (hds:S.ds.length≤1000000) (hbw:base≤w.heap.size) (hoff:∀ b∈S.bs,b.off<1000000) :
  Calls Tryz.prog 27 #[v] w fun e w'=>∃ v' l,e=.returned v'∧OwnBk w' w.heap.size base v' l∧l.map KB.b=S.bs∧(∀ x∈l,x.d=if x.b.u=true then datL S.ds (x.b.off+32) else [])∧w.grownBy w' none:=by
 have hst0:=h
 obtain ⟨la,n,cp,va,ln,vc,da,dn,dc,na,nn,nc,lD,hv,hb,-⟩:=h
 have hc2:(sC all S.E la n cp va ln vc da dn dc na nn nc S.lv)[2]?=some (.slice la n cp):=rfl
 obtain ⟨cs,hcs⟩:∃ cs,sC all S.E la n cp va ln vc da dn dc na nn nc S.lv=cs:=⟨_,rfl⟩
 rw [hcs] at hv hc2
 subst hv
 obtain ⟨hs0,hs1,-,-⟩:=hst0.one
 have b1:=Yab w (.cells cs 36)
 have hg:=World.grownBy_alloc w (.cells cs 36) none
 obtain ⟨W0,hW0⟩:∃ W0,w.alloc (.cells cs 36)=W0:=⟨_,rfl⟩
 rw [hW0] at b1 hg
 have cy:=Yas b1 hc2
 obtain ⟨la',c',hlv,hat⟩:=hb.at_
 injection hlv with e1 e2 e3
 have hnl:S.bs.length=n:=e2.symm
 rw [← e1] at hat
 have H00:BlI w base S W0 (.slice none 0 0) 0 W0:=⟨⟨[],⟨World.ownsRow_nil _ _ _ _,fun x hx=>by cases hx⟩,rfl,by simp,fun x hx=>by cases hx⟩,Yag _ _⟩
 have hstx:∀ V,W0.grownBy V none→V.heap[w.heap.size]?=some (.cells cs 36 (0,0)):=fun V hV=>(hV.block _ (lt_of_block b1) (by simp)).trans b1
 have hrow:∀ V,W0.grownBy V none→∀ k,k<n→∃ b off,la=some ⟨b,off,none⟩∧V.cell? ⟨b,off+k*5,none⟩=some (.int .u64 (gO S.bs k:Nat))∧V.cell? ⟨b,off+k*5+1,none⟩=some (.int .u64 (gS S.bs k:Nat))∧V.cell? ⟨b,off+k*5+2,none⟩=some (.bool (gU S.bs k))∧V.cell? ⟨b,off+k*5+3,none⟩=some (.int .i64 (gW S.bs k))∧V.cell? ⟨b,off+k*5+4,none⟩=some (.int .u64 (gN S.bs k:Nat)):=fun V hV k hk=>by
  obtain ⟨b,off,q1,q2,q3⟩:=(hat.later (Yaa hg hV)).cells (by omega)
  exact ⟨b,off,q1,q3 k (by omega)⟩
 have hdat:=fun (V:World) (hV:W0.grownBy V none) (p:Nat)=>Ydx (hst0.later (Yaa hg hV)) hds p
 have HC2:=Lib.hid hc2
 have HSTX:=Lib.hid hstx
 have HROW:=Lib.hid hrow
 have HDAT:=Lib.hid hdat
 have HNL:=Lib.hid hnl
 have HG:=Lib.hid hg
 have H0:=Lib.hid H00
 have hn6:n≤1000:=by omega
 have HOFF:=Lib.hid hoff
 clear hst0 hb hat e1 e3 hnl hstx hrow hdat hg H00 hc2 hcs b1 hoff hlen
 go_enter Tryz.func27,Tryz.ntmps27
 go_wp2
 clear hW0 cy
 go_loopw [4,3] (fun i v wr=>∃ k:Nat,k≤n∧i=.int .i64 k∧BlI w base S W0 v k wr) (fun i _ _=>n - (intOf i).toNat)
 case atStart=>exact ⟨0,Nat.zero_le _,rfl,H0.out⟩
 case round =>
  obtain ⟨k,hk,rfl,HI⟩:=hrel
  by_cases h1:k<n
  ·have h1':(k:Int)<(n:Int):=by omega
   obtain ⟨⟨l,hl,hlk,hlb,hld⟩,G⟩:=HI
   have hWs:=HG.out.size
   obtain ⟨a3,c3,hu3⟩:=hl.form
   rw [hlk] at hu3
   subst hu3
   have cy:=Yas (HSTX.out wr G) HC2.out
   obtain ⟨rb,ro,era,r0,r1,r2,r3,r4⟩:=HROW.out wr G k h1
   subst era
   have hkl:k<S.bs.length:=by rw [HNL.out];exact h1
   have hmem:S.bs.getD k default∈S.bs:=by rw [List.getD_eq_getElem?_getD,List.getElem?_eq_getElem hkl];exact List.getElem_mem hkl
   have hof:=HOFF.out _ hmem
   obtain ⟨b,eb⟩:∃ b,S.bs.getD k default=b:=⟨_,rfl⟩
   have htk:S.bs.take (k+1)=S.bs.take k++[b]:=by
    rw [List.take_succ_eq_append_getElem hkl,← eb,List.getD_eq_getElem?_getD,List.getElem?_eq_getElem hkl];rfl
   unfold gO at r0
   unfold gS at r1
   unfold gU at r2
   unfold gW at r3
   unfold gN at r4
   rw [eb] at r0 r1 r2 r3 r4 hof
   obtain ⟨o,s,u,ow,m⟩:=b
   replace hof:o<1000000:=hof
   replace r0:wr.cell? ⟨rb,ro+k*5,none⟩=some (.int .u64 (o:Nat)):=r0
   replace r1:wr.cell? ⟨rb,ro+k*5+1,none⟩=some (.int .u64 (s:Nat)):=r1
   replace r2:wr.cell? ⟨rb,ro+k*5+2,none⟩=some (.bool u):=r2
   replace r3:wr.cell? ⟨rb,ro+k*5+3,none⟩=some (.int .i64 ow):=r3
   replace r4:wr.cell? ⟨rb,ro+k*5+4,none⟩=some (.int .u64 (m:Nat)):=r4
   have HTK:=Lib.hid htk
   have HLB:=Lib.hid hlb
   have HLD:=Lib.hid hld
   have HLL:Hid (l.length≤1000000):=Lib.hid (by omega)
   have HLK:=Lib.hid hlk
   have hnb:(Value.slice a3 k c3).ownBlock≠some wr.heap.size:=fun e=>by
    have:=(World.ownsRow.lt hl.1 _ e).2
    omega
   obtain ⟨y,ey⟩:∃ y,o+32=y:=⟨_,rfl⟩
   have e32:IntKind.u64.wrap ((o:Int)+32)=(y:Nat):=by rw [IntKind.wrap_u64];omega
   have EY:=Lib.hid ey
   have bB0:=Yab wr (.cells #[.int .u64 (o:Nat),.int .u64 (s:Nat),.bool u,.int .i64 ow,.int .u64 (m:Nat),.slice none 0 0] 83)
   have gb0:=World.grownBy_alloc wr (.cells #[.int .u64 (o:Nat),.int .u64 (s:Nat),.bool u,.int .i64 ow,.int .u64 (m:Nat),.slice none 0 0] 83) none
   obtain ⟨Wb0,hWb0⟩:∃ Wb0,wr.alloc (.cells #[.int .u64 (o:Nat),.int .u64 (s:Nat),.bool u,.int .i64 ow,.int .u64 (m:Nat),.slice none 0 0] 83)=Wb0:=⟨_,rfl⟩
   rw [hWb0] at bB0 gb0
   have zb0:=Ydw bB0 5
   obtain ⟨t0,t1,t2,t3,t4,t5⟩:=Ya5 bB0
   have bB1:=Yb7 (k:=5) (v:=.slice none 0 0) bB0
   have gb:=Yaj gb0 (Yac Wb0 wr.heap.size 5 (.slice none 0 0)) (fun i hi=>.inl (by injection hi with hi;omega))
   obtain ⟨Wb,hWb⟩:∃ Wb,Wb0.setCell ⟨wr.heap.size,5,none⟩ (.slice none 0 0)=Wb:=⟨_,rfl⟩
   rw [hWb] at bB1 gb
   have bB:Wb.heap[wr.heap.size]?=some (.cells #[.int .u64 (o:Nat),.int .u64 (s:Nat),.bool u,.int .i64 ow,.int .u64 (m:Nat),.slice none 0 0] 83 (0,0)):=bB1
   obtain ⟨m0,m1,m2,m3,m4,m5⟩:=Ya5 bB
   have stB:=HSTX.out Wb (Yaa G gb)
   have hdt:=HDAT.out Wb (Yaa G gb) y
   clear hlk hlb hld htk hmem eb ey hkl
   cases u with
   | true =>
    go_wp2_with (first
     | (refine Yad rfl 36 _ rfl _ 0 rfl stB cs (fun j v hj=>by simpa using hj) _ Tryz.underlying36 rfl (by rw [Yai,hs0]) ?_)
     | (go_at_call 54;(with_reducible refine hdt.mono ?_);rintro e w5 ⟨da,dm,dk,rfl,hdw,hg5⟩;have bB5:=(hg5.block _ (lt_of_block bB) (by simp)).trans bB;have z5:=Ydw bB5 5;obtain ⟨n0,n1,n2,n3,n4,n5⟩:=Ya5 bB5;have g6:=Yac w5 wr.heap.size 5 (.slice da dm dk);have p6:=Yb7 (k:=5) (v:=.slice da dm dk) bB5;have hl6:=(hl.later (Yaa gb hg5)).past g6 bB5 hnb;have hdw6:=Ya8 hdw g6 bB5 (by decide);obtain ⟨W6,hW6⟩:∃ W6,w5.setCell ⟨wr.heap.size,5,none⟩ (.slice da dm dk)=W6:=⟨_,rfl⟩;rw [hW6] at p6 hl6 hdw6 g6;have p6':W6.heap[wr.heap.size]?=some (.cells #[.int .u64 (o:Nat),.int .u64 (s:Nat),.bool true,.int .i64 ow,.int .u64 (m:Nat),.slice da dm dk] 83 (0,0)):=p6;obtain ⟨j0,j1,j2,j3,j4,j5⟩:=Ya5 p6';have G6:=Yaj (Yaa gb hg5) g6 (fun i hi=>.inl (by injection hi with hi;omega));have hb6:W0.heap.size≤W6.heap.size:=(Yaa G G6).size)
     | (at_builtin;(refine wpList_append_bk hl6 HLL.out hb6 ⟨⟨o,s,true,ow,m⟩,da,dm,dk,datL S.ds y⟩ hdw6 rfl _ _ rfl rfl rfl ?_);intro v7 w7 hv7 hg7))
    go_roundw
    case rel =>
     refine ⟨k+1,by omega,by go_num,⟨⟨_,hv7,by rw [List.length_append,HLK.out];rfl,by rw [List.map_append,HLB.out,HTK.out];rfl,fun x hx=>?_⟩,Yaj (Yaa G G6) hg7 (fun i hi=>.inl (hl.new hi))⟩⟩
     rcases List.mem_append.1 hx with q|q
     ·exact HLD.out x q
     ·rw [List.mem_singleton.1 q]
      show datL S.ds y=if true=true then datL S.ds (o+32) else []
      rw [if_pos rfl,EY.out]
    case measure=>simp [intOf];omega
   | false =>
    have hlb:=hl.later gb
    have hnl:OwnW Wb base (.slice none 0 0) []:=World.ownsRow_nil _ _ _ _
    have hb6:W0.heap.size≤Wb.heap.size:=(Yaa G gb).size
    go_wp2_with (first
     | (at_builtin;(refine wpList_append_bk hlb HLL.out hb6 ⟨⟨o,s,false,ow,m⟩,none,0,0,[]⟩ hnl rfl _ _ rfl rfl rfl ?_);intro v7 w7 hv7 hg7))
    go_roundw
    case rel =>
     refine ⟨k+1,by omega,by go_num,⟨⟨_,hv7,by rw [List.length_append,HLK.out];rfl,by rw [List.map_append,HLB.out,HTK.out];rfl,fun x hx=>?_⟩,Yaj (Yaa G gb) hg7 (fun i hi=>.inl (hl.new hi))⟩⟩
     rcases List.mem_append.1 hx with q|q
     ·exact HLD.out x q
     ·rw [List.mem_singleton.1 q];rfl
    case measure=>simp [intOf];omega
  ·obtain rfl:k=n:=by omega
   have h1':¬ (k:Int)<(k:Int):=by omega
   obtain ⟨⟨l,hl,hlk,hlb,hld⟩,G⟩:=HI
   have cy:=Yas (HSTX.out wr G) HC2.out
   have hfin:l.map KB.b=S.bs:=by rw [hlb,← HNL.out,List.take_length]
   have HFIN:=Lib.hid hfin
   have HLD:=Lib.hid hld
   clear hlk hlb hfin hld
   go_wp2
   go_ret
   exact ⟨_,rfl,l,hl.mono HG.out.size,HFIN.out,HLD.out,Yaa HG.out G⟩
end
end
section
structure Yc4 where
 c:Int
 x:OpM
 at_:Nat
 kill:Bool
def Yc4.C (q:Yc4):Array Value:=callC q.c q.x q.at_ q.kill
structure Yco (w:World) (la:Option Addr) (l:List Yc4):Prop where
 cells:0<l.length→∃ b off,la=some ⟨b,off,none⟩∧b<w.heap.size∧∀ k,(hk:k<l.length)→∀ j v,(l[k]).C[j]?=some v→w.cell? ⟨b,off+k*11+j,none⟩=some v
theorem Yco.later {w w':World} {la:Option Addr} {l:List Yc4} (h:Yco w la l) (hg:w.grownBy w' none):Yco w' la l where
 cells:=fun hn=>by
  obtain ⟨b,off,h1,h2,h3⟩:=h.cells hn
  exact ⟨b,off,h1,Nat.lt_of_lt_of_le h2 hg.size,fun k hk j v hv=>(World.cell?_of_block (w:=w) (a:=⟨b,off+k*11+j,none⟩) (hg.block b h2 (by simp))).trans (h3 k hk j v hv)⟩
def fewL (l:List Yc4):Bool:=(l.take 26).all (fun q=>decide (q.x.name.size≤60)) && decide (l.length≤25)
theorem fewL_no {l:List Yc4} {q:Yc4} {k:Nat} (hk:k<26) (hq:q∈l.take (k+1)) (h:60<q.x.name.size):fewL l=false:=by
 have e:l.take (k+1)=(l.take 26).take (k+1):=by rw [List.take_take,Nat.min_eq_left (by omega)]
 rw [e] at hq
 have h1:(l.take 26).all (fun q=>decide (q.x.name.size≤60))=false:=by
  rw [List.all_eq_false]
  exact ⟨q,List.mem_of_mem_take hq,by simp;omega⟩
 unfold fewL
 rw [h1];rfl
theorem fewL_yes {l:List Yc4} (h:∀ q∈l.take 26,q.x.name.size≤60):fewL l=decide (l.length≤25):=by
 have h1:(l.take 26).all (fun q=>decide (q.x.name.size≤60))=true:=by
  rw [List.all_eq_true]
  exact fun q hq=>decide_eq_true (h q hq)
 unfold fewL
 rw [h1,Bool.true_and]
theorem fewL_is {l:List Yc4} (h:fewL l=true):l.length≤25∧∀ q∈l,q.x.name.size≤60:=by
 unfold fewL at h
 rw [Bool.and_eq_true,decide_eq_true_eq,List.all_eq_true] at h
 refine ⟨h.2,fun q hq=>?_⟩
 have:=h.1 q (by rw [List.take_of_length_le (by omega)];exact hq)
 exact of_decide_eq_true this
section
variable {w w' W:World} {la:Option Addr} {l:List Yc4} {n c:Nat}
set_option maxHeartbeats 4000000 in
theorem few14 (h:Yco w la l) (hn:l.length=n) (hm:n≤maxLen):Calls Tryz.prog 10 #[.slice la n c] w fun e w'=>e=.returned (.bool (fewL l))∧w'=w:=by
 have hrow:∀ k,(hk:k<l.length)→∃ b off,la=some ⟨b,off,none⟩∧w.cell? ⟨b,off+k*11+8,none⟩=some (.string (l[k]).x.name):=fun k hk=>by
  obtain ⟨b,off,h1,h2,h3⟩:=h.cells (by omega)
  exact ⟨b,off,h1,h3 k hk 8 _ rfl⟩
 have HROW:=Lib.hid hrow
 have HN:=Lib.hid hn
 clear h hrow hn
 unfold maxLen at hm
 go_enter Tryz.func10,Tryz.ntmps10
 go_wp2
 go_loopw [3] (fun i wr=>∃ k:Nat,k≤n∧k≤26∧i=.int .i64 k∧w=wr∧Hid (∀ q∈l.take k,q.x.name.size≤60)) (fun i _=>26 - (intOf i).toNat)
 case atStart=>exact ⟨0,Nat.zero_le _,Nat.zero_le _,rfl,rfl,Lib.hid (by simp)⟩
 case round =>
  obtain ⟨k,hk,hk6,rfl,rfl,HI⟩:=hrel
  by_cases h1:k<n
  ·have h1':(k:Int)<(n:Int):=by omega
   by_cases h2:k<26
   ·have h2':(k:Int)<26:=by omega
    obtain ⟨b,off,ela,r8⟩:=HROW.out k (by rw [HN.out];exact h1)
    subst ela
    obtain ⟨q,eq⟩:∃ q,l[k]'(by rw [HN.out];exact h1)=q:=⟨_,rfl⟩
    rw [eq] at r8
    have htk:l.take (k+1)=l.take k++[q]:=by rw [List.take_succ_eq_append_getElem (by rw [HN.out];exact h1),eq]
    have HTK:=Lib.hid htk
    clear htk eq
    by_cases h3:60<q.x.name.size
    ·have h3':(60:Int)<(q.x.name.size:Int):=by omega
     go_wp2
     go_ret
     exact ⟨by rw [fewL_no h2 (by rw [HTK.out];simp) h3];rfl,rfl⟩
    ·have h3':¬ (60:Int)<(q.x.name.size:Int):=by omega
     go_wp2
     go_roundw
     case rel =>
      refine ⟨k+1,by omega,by omega,by go_num,trivial,Lib.hid fun z hz=>?_⟩
      rw [HTK.out] at hz
      rcases List.mem_append.1 hz with y|y
      ·exact HI.out z y
      ·rw [List.mem_singleton.1 y];omega
     case measure=>simp [intOf] <;> omega
   ·obtain rfl:k=26:=by omega
    go_wp2
    go_ret
    refine ⟨?_,rfl⟩
    rw [fewL_yes HI.out,HN.out]
    have:decide ((n:Int)≤25)=decide (n≤25):=decide_eq_decide.2 (by omega)
    rw [this]
    rfl
  ·obtain rfl:k=n:=by omega
   have h1':¬ (k:Int)<(k:Int):=by omega
   go_wp2
   go_ret
   refine ⟨?_,rfl⟩
   rw [fewL_yes (fun q hq=>HI.out q (by rw [List.take_of_length_le (by rw [HN.out];exact Nat.le_refl _)];exact List.mem_of_mem_take hq)),HN.out]
   have:decide ((k:Int)≤25)=decide (k≤25):=decide_eq_decide.2 (by omega)
   rw [this]
   rfl
end
end
section
theorem rpack14 (s:ByteArray) (hs:s.size≤maxLen) (w:World):Calls Tryz.prog 80 #[.string s] w fun e w'=>e=.returned (.tuple #[.agg #[.int .u64 (loD s:Nat),.int .u64 (hiD s:Nat)],.bool (decide (nmOk s))])∧w.grownBy w' none:=by
 unfold loD hiD
 by_cases h:nmOk s
 ·rw [if_pos h,if_pos h,decide_eq_true h]
  exact (rpack_any s h.1 h.2 w).mono fun e w' ⟨h1,h2⟩=>⟨h1,Ydk h2⟩
 ·rw [if_neg h,if_neg h,decide_eq_false h]
  exact (rpack_not s (by unfold nmOk at h;omega) (by unfold maxLen at hs;omega) w).mono fun e w' ⟨h1,h2⟩=>⟨h1,Ydk h2⟩
theorem getD_midP {A C:List (ByteArray × Nat)} {q d:ByteArray × Nat}:(A++q::C).getD A.length d=q:=by
 rw [List.getD_eq_getElem?_getD,List.getElem?_append_right (by omega),Nat.sub_self];rfl
theorem nmdL_at {nm A C:List (ByteArray × Nat)} {s:ByteArray} {p:Nat} {q:ByteArray × Nat} (e:nm=A++q::C) (hq:q.1=s∨q.2=p) (hA:∀ z∈A,¬ (z.1=s∨z.2=p)):nmdL nm s p nm.length 0=some A.length:=by
 have key:∀ (d k:Nat),A.length - k=d→k≤A.length→nmdL nm s p (nm.length - k) k=some A.length:=by
  intro d
  induction d with
  | zero =>
   intro k h1 h2
   have hk:k=A.length:=by omega
   subst hk
   rw [nmdL_step (by rw [e];simp)]
   unfold entS entO
   rw [e,getD_midP,if_pos hq]
  | succ d ih =>
   intro k h1 h2
   have hlt:k<A.length:=by omega
   rw [nmdL_step (by rw [e];simp;omega)]
   have hz:nm.getD k (ByteArray.empty,0)=A[k]:=by
    rw [e,List.getD_eq_getElem?_getD,List.getElem?_append_left hlt,List.getElem?_eq_getElem hlt];rfl
   unfold entS entO
   rw [hz,if_neg (hA _ (List.getElem_mem hlt))]
   exact ih (k+1) (by omega) (by omega)
 have:=key A.length 0 (by omega) (Nat.zero_le _)
 rwa [Nat.sub_zero] at this
theorem nmdL_no {nm:List (ByteArray × Nat)} {s:ByteArray} {p:Nat} (h:∀ z∈nm,¬ (z.1=s∨z.2=p)):nmdL nm s p nm.length 0=none:=by
 have key:∀ (d k:Nat),nm.length - k=d→nmdL nm s p (nm.length - k) k=none:=by
  intro d
  induction d with
  | zero=>intro k h1;rw [h1];rfl
  | succ d ih =>
   intro k h1
   have hlt:k<nm.length:=by omega
   rw [nmdL_step hlt]
   have hz:nm.getD k (ByteArray.empty,0)=nm[k]:=by rw [List.getD_eq_getElem?_getD,List.getElem?_eq_getElem hlt];rfl
   unfold entS entO
   rw [hz,if_neg (h _ (List.getElem_mem hlt))]
   exact ih (k+1) (by omega)
 have:=key nm.length 0 rfl
 rwa [Nat.sub_zero] at this
section
variable {w w' W:World} {F:Nat→Prop} {base all K c i:Nat} {v:Value} {S:MS} {x:OpM} {p:Nat} {A C:List (ByteArray × Nat)}
set_option maxHeartbeats 2000000 in
theorem rnam_bad (h:StIs w F base v all S) (hnm:S.nm.length≤1000000) (hx:OpOk x) (hno:¬ nmOk x.name) :
  Calls Tryz.prog 51 #[v,.agg (opC x)] w fun e w'=>∃ v',e=.returned (.tuple #[v',.agg #[.int .i64 8,.int .u64 0,.int .u64 0]])∧StIs w' F base v' all S∧w.grownBy w' none:=by
 obtain ⟨cs,rfl,hs0,hs1,hs00,hsl⟩:=h.cells
 have BX:=Ybf w cs (opC x)
 obtain ⟨W0,hW0⟩:∃ W0,((((w.alloc (.cells cs 36)).alloc (.cells (opC x) 41)).alloc (.cells sZ 36)).alloc (.cells rZ 46))=W0:=⟨_,rfl⟩
 rw [hW0] at BX
 have HST:=Lib.hid h
 have hpack:=fun V=>rpack14 x.name hx.name V
 have hname:=fun (V:World) (hg:w.grownBy V none)=>Ydn (h.later hg) hnm x.name 0
 obtain ⟨lo,elo⟩:∃ q,loD x.name=q:=⟨_,rfl⟩
 obtain ⟨hi,ehi⟩:∃ q,hiD x.name=q:=⟨_,rfl⟩
 simp only [elo,ehi] at hpack
 have htold:=fun (V:World)=>Yc2 h 8 V
 simp only [decide_eq_false hno] at hpack
 have HPACK:=Lib.hid hpack
 have HTOLD:=Lib.hid htold
 clear h hpack htold hname elo ehi hno
 obtain ⟨d0,d1,d2,d3,d4,d5,d6,d7⟩:=Yal BX.op
 unfold sZ rZ at hW0
 go_enter Tryz.func51,Tryz.ntmps51
 go_wp2_with (first
  | (refine Yad rfl 36 _ rfl _ 0 rfl BX.st cs (fun j v hj=>by simpa using hj) _ Tryz.underlying36 rfl (by rw [Yai,hs0]) ?_)
  | (refine Yad rfl 41 _ rfl _ 0 rfl BX.op (opC x) (fun j v hj=>by simpa using hj) _ Tryz.underlying41 rfl Ybb ?_)
  | (go_at_call 80;(with_reducible refine (HPACK.out _).mono ?_);rintro e w1 ⟨rfl,hg1⟩;have ga:=World.grownBy_alloc w1 (.cells #[.int .u64 (lo:Nat),.int .u64 (hi:Nat)] 124) none;replace BX:=BX.later (Yaa hg1 ga);obtain ⟨d0,d1,d2,d3,d4,d5,d6,d7⟩:=Yal BX.op)
  | (go_at_call 48;(with_reducible refine (HTOLD.out _).mono ?_);rintro e w2 ⟨rfl,hg2⟩;replace BX:=BX.later hg2;obtain ⟨d0,d1,d2,d3,d4,d5,d6,d7⟩:=Yal BX.op)
  | (refine Yae rfl 36 _ _ rfl _ 0 rfl rfl BX.rs (by rw [hs0];exact Nat.le_refl _) (by rw [Yai,hs0]) hs1 ?_;intro W1 p1 g1;rw [Yau _ _ hs0] at p1;obtain ⟨y0,y1,y2⟩:=Yaf (BX.res g1);obtain ⟨z0,z1,z2⟩:=Yak (BX.res g1)))
 obtain ⟨q1,q2,q3,q4⟩:=BX.done (HST.out.later BX.gr) p1 g1 (e:=8) (p:=0) (q:=0)
 refine bodyPost_ret (Yav rfl _ rfl rfl q1 q2 Tryz.underlying36 rfl (by rw [Yai,hs0]) Tryz.underlying46 rfl Ya0) rfl ?_
 exact ⟨_,rfl,q3,q4⟩
set_option maxHeartbeats 2000000 in
theorem rnam_none (h:StIs w F base v all S) (hnm:S.nm.length≤1000000) (hx:OpOk x) (hk:x.kind=9∨x.kind=10) (hok:nmOk x.name) (hn:∀ q∈S.nm,¬ (q.1=x.name∨q.2=0)) :
  Calls Tryz.prog 51 #[v,.agg (opC x)] w fun e w'=>∃ v',e=.returned (.tuple #[v',.agg #[.int .i64 6,.int .u64 0,.int .u64 0]])∧StIs w' F base v' all S∧w.grownBy w' none:=by
 obtain ⟨cs,rfl,hs0,hs1,hs00,hsl⟩:=h.cells
 have BX:=Ybf w cs (opC x)
 obtain ⟨W0,hW0⟩:∃ W0,((((w.alloc (.cells cs 36)).alloc (.cells (opC x) 41)).alloc (.cells sZ 36)).alloc (.cells rZ 46))=W0:=⟨_,rfl⟩
 rw [hW0] at BX
 have HST:=Lib.hid h
 have hpack:=fun V=>rpack14 x.name hx.name V
 have hname:=fun (V:World) (hg:w.grownBy V none)=>Ydn (h.later hg) hnm x.name 0
 obtain ⟨lo,elo⟩:∃ q,loD x.name=q:=⟨_,rfl⟩
 obtain ⟨hi,ehi⟩:∃ q,hiD x.name=q:=⟨_,rfl⟩
 simp only [elo,ehi] at hpack
 simp only [decide_eq_true hok] at hpack
 have HPACK:=Lib.hid hpack
 rw [nmdL_no hn] at hname
 replace hname:∀ V:World,w.grownBy V none→Calls Tryz.prog 81 #[.agg cs,.string x.name,.int .u64 0] V fun e w'=>e=.returned (.int .i64 (-1))∧V.grownBy w' none:=hname
 have htold:=fun (V:World)=>Yc2 h 6 V
 have HTOLD:=Lib.hid htold
 have HNAME:=Lib.hid hname
 have hk8:¬ x.kind=8:=by omega
 have hk8':(x.kind != 8)=true:=by simpa using hk8
 clear h hpack htold hname elo ehi hok hk hn
 obtain ⟨d0,d1,d2,d3,d4,d5,d6,d7⟩:=Yal BX.op
 unfold sZ rZ at hW0
 go_enter Tryz.func51,Tryz.ntmps51
 go_wp2_with (first
  | (refine Yad rfl 36 _ rfl _ 0 rfl BX.st cs (fun j v hj=>by simpa using hj) _ Tryz.underlying36 rfl (by rw [Yai,hs0]) ?_)
  | (refine Yad rfl 41 _ rfl _ 0 rfl BX.op (opC x) (fun j v hj=>by simpa using hj) _ Tryz.underlying41 rfl Ybb ?_)
  | (go_at_call 80;(with_reducible refine (HPACK.out _).mono ?_);rintro e w1 ⟨rfl,hg1⟩;have ga:=World.grownBy_alloc w1 (.cells #[.int .u64 (lo:Nat),.int .u64 (hi:Nat)] 124) none;replace BX:=BX.later (Yaa hg1 ga);obtain ⟨d0,d1,d2,d3,d4,d5,d6,d7⟩:=Yal BX.op)
  | (go_at_call 81;(with_reducible refine (HNAME.out _ BX.gr).mono ?_);rintro e w4 ⟨rfl,hg4⟩;replace BX:=BX.later hg4;obtain ⟨d0,d1,d2,d3,d4,d5,d6,d7⟩:=Yal BX.op)
  | (go_at_call 48;(with_reducible refine (HTOLD.out _).mono ?_);rintro e w2 ⟨rfl,hg2⟩;replace BX:=BX.later hg2;obtain ⟨d0,d1,d2,d3,d4,d5,d6,d7⟩:=Yal BX.op)
  | (refine Yae rfl 36 _ _ rfl _ 0 rfl rfl BX.rs (by rw [hs0];exact Nat.le_refl _) (by rw [Yai,hs0]) hs1 ?_;intro W1 p1 g1;rw [Yau _ _ hs0] at p1;obtain ⟨y0,y1,y2⟩:=Yaf (BX.res g1);obtain ⟨z0,z1,z2⟩:=Yak (BX.res g1)))
 obtain ⟨q1,q2,q3,q4⟩:=BX.done (HST.out.later BX.gr) p1 g1 (e:=6) (p:=0) (q:=0)
 refine bodyPost_ret (Yav rfl _ rfl rfl q1 q2 Tryz.underlying36 rfl (by rw [Yai,hs0]) Tryz.underlying46 rfl Ya0) rfl ?_
 exact ⟨_,rfl,q3,q4⟩
set_option maxHeartbeats 2000000 in
theorem rnam_there (h:StIs w F base v all S) (hnm:S.nm.length≤1000000) (hx:OpOk x) (hk:x.kind=8) (hok:nmOk x.name) (hnA:S.nm=A++(x.name,p)::C) (hA:∀ q∈A,¬ (q.1=x.name∨q.2=0)) :
  Calls Tryz.prog 51 #[v,.agg (opC x)] w fun e w'=>∃ v',e=.returned (.tuple #[v',.agg #[.int .i64 7,.int .u64 0,.int .u64 0]])∧StIs w' F base v' all S∧w.grownBy w' none:=by
 obtain ⟨cs,rfl,hs0,hs1,hs00,hsl⟩:=h.cells
 have BX:=Ybf w cs (opC x)
 obtain ⟨W0,hW0⟩:∃ W0,((((w.alloc (.cells cs 36)).alloc (.cells (opC x) 41)).alloc (.cells sZ 36)).alloc (.cells rZ 46))=W0:=⟨_,rfl⟩
 rw [hW0] at BX
 have HST:=Lib.hid h
 have hpack:=fun V=>rpack14 x.name hx.name V
 have hname:=fun (V:World) (hg:w.grownBy V none)=>Ydn (h.later hg) hnm x.name 0
 obtain ⟨lo,elo⟩:∃ q,loD x.name=q:=⟨_,rfl⟩
 obtain ⟨hi,ehi⟩:∃ q,hiD x.name=q:=⟨_,rfl⟩
 simp only [elo,ehi] at hpack
 simp only [decide_eq_true hok] at hpack
 have HPACK:=Lib.hid hpack
 obtain ⟨i,ei⟩:∃ i,A.length=i:=⟨_,rfl⟩
 rw [nmdL_at hnA (.inl rfl) hA,ei] at hname
 replace hname:∀ V:World,w.grownBy V none→Calls Tryz.prog 81 #[.agg cs,.string x.name,.int .u64 0] V fun e w'=>e=.returned (.int .i64 (i:Nat))∧V.grownBy w' none:=hname
 have HNAME:=Lib.hid hname
 have htold:=fun (V:World)=>Yc2 h 7 V
 have HTOLD:=Lib.hid htold
 have hi0:(0:Int)≤(i:Int):=by omega
 clear h hpack htold hname elo ehi hok hA hnA ei
 obtain ⟨d0,d1,d2,d3,d4,d5,d6,d7⟩:=Yal BX.op
 rw [hk] at d0
 unfold sZ rZ at hW0
 go_enter Tryz.func51,Tryz.ntmps51
 go_wp2_with (first
  | (refine Yad rfl 36 _ rfl _ 0 rfl BX.st cs (fun j v hj=>by simpa using hj) _ Tryz.underlying36 rfl (by rw [Yai,hs0]) ?_)
  | (refine Yad rfl 41 _ rfl _ 0 rfl BX.op (opC x) (fun j v hj=>by simpa using hj) _ Tryz.underlying41 rfl Ybb ?_)
  | (go_at_call 80;(with_reducible refine (HPACK.out _).mono ?_);rintro e w1 ⟨rfl,hg1⟩;have ga:=World.grownBy_alloc w1 (.cells #[.int .u64 (lo:Nat),.int .u64 (hi:Nat)] 124) none;replace BX:=BX.later (Yaa hg1 ga);obtain ⟨d0,d1,d2,d3,d4,d5,d6,d7⟩:=Yal BX.op;rw [hk] at d0)
  | (go_at_call 81;(with_reducible refine (HNAME.out _ BX.gr).mono ?_);rintro e w4 ⟨rfl,hg4⟩;replace BX:=BX.later hg4;obtain ⟨d0,d1,d2,d3,d4,d5,d6,d7⟩:=Yal BX.op;rw [hk] at d0)
  | (go_at_call 48;(with_reducible refine (HTOLD.out _).mono ?_);rintro e w2 ⟨rfl,hg2⟩;replace BX:=BX.later hg2;obtain ⟨d0,d1,d2,d3,d4,d5,d6,d7⟩:=Yal BX.op;rw [hk] at d0)
  | (refine Yae rfl 36 _ _ rfl _ 0 rfl rfl BX.rs (by rw [hs0];exact Nat.le_refl _) (by rw [Yai,hs0]) hs1 ?_;intro W1 p1 g1;rw [Yau _ _ hs0] at p1;obtain ⟨y0,y1,y2⟩:=Yaf (BX.res g1);obtain ⟨z0,z1,z2⟩:=Yak (BX.res g1)))
 obtain ⟨q1,q2,q3,q4⟩:=BX.done (HST.out.later BX.gr) p1 g1 (e:=7) (p:=0) (q:=0)
 refine bodyPost_ret (Yav rfl _ rfl rfl q1 q2 Tryz.underlying36 rfl (by rw [Yai,hs0]) Tryz.underlying46 rfl Ya0) rfl ?_
 exact ⟨_,rfl,q3,q4⟩
set_option maxHeartbeats 2000000 in
theorem rnam_full (h:StIs w F base v all S) (hnm:S.nm.length≤1000000) (hx:OpOk x) (hk:x.kind=8) (hok:nmOk x.name) (hn:∀ q∈S.nm,¬ (q.1=x.name∨q.2=0)) (hf:16≤S.nm.length) :
  Calls Tryz.prog 51 #[v,.agg (opC x)] w fun e w'=>∃ v',e=.returned (.tuple #[v',.agg #[.int .i64 9,.int .u64 0,.int .u64 0]])∧StIs w' F base v' all S∧w.grownBy w' none:=by
 obtain ⟨cs,rfl,hs0,hs1,hs00,hsl⟩:=h.cells
 have BX:=Ybf w cs (opC x)
 obtain ⟨W0,hW0⟩:∃ W0,((((w.alloc (.cells cs 36)).alloc (.cells (opC x) 41)).alloc (.cells sZ 36)).alloc (.cells rZ 46))=W0:=⟨_,rfl⟩
 rw [hW0] at BX
 have HST:=Lib.hid h
 have hpack:=fun V=>rpack14 x.name hx.name V
 have hname:=fun (V:World) (hg:w.grownBy V none)=>Ydn (h.later hg) hnm x.name 0
 obtain ⟨lo,elo⟩:∃ q,loD x.name=q:=⟨_,rfl⟩
 obtain ⟨hi,ehi⟩:∃ q,hiD x.name=q:=⟨_,rfl⟩
 simp only [elo,ehi] at hpack
 simp only [decide_eq_true hok] at hpack
 have HPACK:=Lib.hid hpack
 rw [nmdL_no hn] at hname
 replace hname:∀ V:World,w.grownBy V none→Calls Tryz.prog 81 #[.agg cs,.string x.name,.int .u64 0] V fun e w'=>e=.returned (.int .i64 (-1))∧V.grownBy w' none:=hname
 have htold:=fun (V:World)=>Yc2 h 9 V
 obtain ⟨na,nn,nc,hc12,hon,-⟩:=h.entries
 have hnn:nn=S.nm.length:=by
  obtain ⟨a',c',e⟩:=hon.form
  injection e
 have h16:(16:Int)≤(nn:Int):=by omega
 have HTOLD:=Lib.hid htold
 have HNAME:=Lib.hid hname
 have HC:=Lib.hid hc12
 clear h hpack htold hname elo ehi hok hn hf hnn hc12 hon
 obtain ⟨d0,d1,d2,d3,d4,d5,d6,d7⟩:=Yal BX.op
 rw [hk] at d0
 unfold sZ rZ at hW0
 go_enter Tryz.func51,Tryz.ntmps51
 go_wp2_with (first
  | (refine Yad rfl 36 _ rfl _ 0 rfl BX.st cs (fun j v hj=>by simpa using hj) _ Tryz.underlying36 rfl (by rw [Yai,hs0]) ?_)
  | (refine Yad rfl 41 _ rfl _ 0 rfl BX.op (opC x) (fun j v hj=>by simpa using hj) _ Tryz.underlying41 rfl Ybb ?_)
  | (go_at_call 80;(with_reducible refine (HPACK.out _).mono ?_);rintro e w1 ⟨rfl,hg1⟩;have ga:=World.grownBy_alloc w1 (.cells #[.int .u64 (lo:Nat),.int .u64 (hi:Nat)] 124) none;replace BX:=BX.later (Yaa hg1 ga);obtain ⟨d0,d1,d2,d3,d4,d5,d6,d7⟩:=Yal BX.op;rw [hk] at d0)
  | (go_at_call 81;(with_reducible refine (HNAME.out _ BX.gr).mono ?_);rintro e w4 ⟨rfl,hg4⟩;replace BX:=BX.later hg4;obtain ⟨d0,d1,d2,d3,d4,d5,d6,d7⟩:=Yal BX.op;rw [hk] at d0;have c12:=Yas BX.st HC.out)
  | (go_at_call 48;(with_reducible refine (HTOLD.out _).mono ?_);rintro e w2 ⟨rfl,hg2⟩;replace BX:=BX.later hg2;obtain ⟨d0,d1,d2,d3,d4,d5,d6,d7⟩:=Yal BX.op;rw [hk] at d0)
  | (refine Yae rfl 36 _ _ rfl _ 0 rfl rfl BX.rs (by rw [hs0];exact Nat.le_refl _) (by rw [Yai,hs0]) hs1 ?_;intro W1 p1 g1;rw [Yau _ _ hs0] at p1;obtain ⟨y0,y1,y2⟩:=Yaf (BX.res g1);obtain ⟨z0,z1,z2⟩:=Yak (BX.res g1)))
 obtain ⟨q1,q2,q3,q4⟩:=BX.done (HST.out.later BX.gr) p1 g1 (e:=9) (p:=0) (q:=0)
 refine bodyPost_ret (Yav rfl _ rfl rfl q1 q2 Tryz.underlying36 rfl (by rw [Yai,hs0]) Tryz.underlying46 rfl Ya0) rfl ?_
 exact ⟨_,rfl,q3,q4⟩
set_option maxHeartbeats 2000000 in
theorem rnam_find (h:StIs w F base v all S) (hnm:S.nm.length≤1000000) (hx:OpOk x) (hk:x.kind=9) (hok:nmOk x.name) (hnA:S.nm=A++(x.name,p)::C) (hA:∀ q∈A,¬ (q.1=x.name∨q.2=0)) (hp:p<18446744073709551616) :
  Calls Tryz.prog 51 #[v,.agg (opC x)] w fun e w'=>∃ v',e=.returned (.tuple #[v',.agg #[.int .i64 0,.int .u64 (p:Nat),.int .u64 0]])∧StIs w' F base v' all S∧w.grownBy w' none:=by
 obtain ⟨cs,rfl,hs0,hs1,hs00,hsl⟩:=h.cells
 have BX:=Ybf w cs (opC x)
 obtain ⟨W0,hW0⟩:∃ W0,((((w.alloc (.cells cs 36)).alloc (.cells (opC x) 41)).alloc (.cells sZ 36)).alloc (.cells rZ 46))=W0:=⟨_,rfl⟩
 rw [hW0] at BX
 have HST:=Lib.hid h
 have hpack:=fun V=>rpack14 x.name hx.name V
 have hname:=fun (V:World) (hg:w.grownBy V none)=>Ydn (h.later hg) hnm x.name 0
 obtain ⟨lo,elo⟩:∃ q,loD x.name=q:=⟨_,rfl⟩
 obtain ⟨hi,ehi⟩:∃ q,hiD x.name=q:=⟨_,rfl⟩
 simp only [elo,ehi] at hpack
 simp only [decide_eq_true hok] at hpack
 have HPACK:=Lib.hid hpack
 obtain ⟨i,ei⟩:∃ i,A.length=i:=⟨_,rfl⟩
 rw [nmdL_at hnA (.inl rfl) hA,ei] at hname
 replace hname:∀ V:World,w.grownBy V none→Calls Tryz.prog 81 #[.agg cs,.string x.name,.int .u64 0] V fun e w'=>e=.returned (.int .i64 (i:Nat))∧V.grownBy w' none:=hname
 have HNAME:=Lib.hid hname
 obtain ⟨na,nn,nc,hc12,hon,-⟩:=h.entries
 obtain ⟨a',c',g',e1,e2,e3⟩:=hon.addr
 injection e1 with k1 k2 k3
 have hlt:i<S.nm.length:=by rw [hnA,← ei];simp
 have hna:=e2 (by omega)
 subst k2 k3 k1
 rw [hna] at hon hc12 e3
 have hrow:∀ V,w.grownBy V none→V.cell? ⟨g',i*2+1,none⟩=some (.int .u64 (p:Nat)):=fun V hV=>by
  have:=(e3 V (hon.later hV) i hlt).2
  rw [this]
  unfold entO
  rw [hnA,← ei,getD_midP]
 obtain ⟨N,hN⟩:∃ N,S.nm.length=N:=⟨_,rfl⟩
 rw [hN] at hlt hc12 hnm
 have hlti:(i:Int)<(N:Int):=by omega
 have hi0:¬ (i:Int)<0:=by omega
 have HNAME:=Lib.hid hname
 have HC:=Lib.hid hc12
 have HROW:=Lib.hid hrow
 clear h hpack hname elo ehi hok hA hnA ei hon e2 e3 hrow hc12 hN hna
 obtain ⟨d0,d1,d2,d3,d4,d5,d6,d7⟩:=Yal BX.op
 rw [hk] at d0
 unfold sZ rZ at hW0
 go_enter Tryz.func51,Tryz.ntmps51
 go_wp2_with (first
  | (refine Yad rfl 36 _ rfl _ 0 rfl BX.st cs (fun j v hj=>by simpa using hj) _ Tryz.underlying36 rfl (by rw [Yai,hs0]) ?_)
  | (refine Yad rfl 41 _ rfl _ 0 rfl BX.op (opC x) (fun j v hj=>by simpa using hj) _ Tryz.underlying41 rfl Ybb ?_)
  | (go_at_call 80;(with_reducible refine (HPACK.out _).mono ?_);rintro e w1 ⟨rfl,hg1⟩;have ga:=World.grownBy_alloc w1 (.cells #[.int .u64 (lo:Nat),.int .u64 (hi:Nat)] 124) none;replace BX:=BX.later (Yaa hg1 ga);obtain ⟨d0,d1,d2,d3,d4,d5,d6,d7⟩:=Yal BX.op;rw [hk] at d0)
  | (go_at_call 81;(with_reducible refine (HNAME.out _ BX.gr).mono ?_);rintro e w4 ⟨rfl,hg4⟩;replace BX:=BX.later hg4;obtain ⟨d0,d1,d2,d3,d4,d5,d6,d7⟩:=Yal BX.op;rw [hk] at d0;have c12:=Yas BX.st HC.out;have cr:=HROW.out _ BX.gr)
  | (refine Yae rfl 36 _ _ rfl _ 0 rfl rfl BX.rs (by rw [hs0];exact Nat.le_refl _) (by rw [Yai,hs0]) hs1 ?_;intro W1 p1 g1;rw [Yau _ _ hs0] at p1;obtain ⟨y0,y1,y2⟩:=Yaf (BX.res g1);obtain ⟨z0,z1,z2⟩:=Yak (BX.res g1)))
 obtain ⟨q1,q2,q3,q4⟩:=BX.done (HST.out.later BX.gr) p1 g1 (e:=0) (p:=p) (q:=0)
 refine bodyPost_ret (Yav rfl _ rfl rfl q1 q2 Tryz.underlying36 rfl (by rw [Yai,hs0]) Tryz.underlying46 rfl Ya0) rfl ?_
 exact ⟨_,rfl,q3,q4⟩
end
end
section
set_option maxHeartbeats 2000000 in
theorem nums14 {w:World} {base base':Nat} {p q:Value} {l:List Nat} (hp:OwnW w base p l) (hq:OwnW w base' q l) (hl:l.length≤1000000) :
  Calls Tryz.prog 16 #[p,q] w fun e w'=>e=.returned (.bool true)∧w.grownBy w' none:=by
 obtain ⟨pa,pc,pg,hpv,hpa,hpc⟩:=OwnW.addr hp
 obtain ⟨qa,qc,qg,hqv,hqa,hqc⟩:=OwnW.addr hq
 have hpc':=fun w' (hg:w.grownBy w' none)=>hpc w' (hp.later hg)
 have hqc':=fun w' (hg:w.grownBy w' none)=>hqc w' (hq.later hg)
 clear hpc hqc hp hq
 subst hpv
 subst hqv
 have HPA:=Lib.hid hpa
 have HQA:=Lib.hid hqa
 clear hpa hqa
 have e0:((l.length:Int) != (l.length:Int))=false:=by simp
 go_enter Tryz.func16,Tryz.ntmps16
 go_wp2
 go_loopw [5] (fun i wr=>∃ k:Nat,k≤l.length∧i=.int .i64 k∧w.grownBy wr none) (fun i _=>l.length - (intOf i).toNat)
 case atStart=>exact ⟨0,Nat.zero_le _,rfl,Yag _ _⟩
 case round =>
  obtain ⟨k,hk,rfl,R⟩:=hrel
  rcases Nat.lt_or_ge k l.length with h1|h1
  ·have c1:=hpc' _ R k h1
   have c2:=hqc' _ R k h1
   have ea:=HPA.out (by omega)
   have eb:=HQA.out (by omega)
   subst ea
   subst eb
   generalize l.getD k 0=x at *
   have h3':(((x:Nat):Int) != ((x:Nat):Int))=false:=by simp
   go_wp2
   go_quiet (fail)
   go_wp2
   go_roundw
   case rel=>exact ⟨k+1,by omega,by go_num,Yaa R (Ybl _ _)⟩
   case measure=>simp [intOf];omega
  ·go_wp2
   go_ret
   exact ⟨rfl,R⟩
set_option maxHeartbeats 2000000 in
theorem ints14 {w:World} {base base':Nat} {p q:Value} {l:List Nat} (hp:OwnI w base p l) (hq:OwnI w base' q l) (hl:l.length≤1000000) :
  Calls Tryz.prog 29 #[p,q] w fun e w'=>e=.returned (.bool true)∧w.grownBy w' none:=by
 obtain ⟨pa,pc,pg,hpv,hpa,hpc⟩:=OwnI.addr hp
 obtain ⟨qa,qc,qg,hqv,hqa,hqc⟩:=OwnI.addr hq
 have hpc':=fun w' (hg:w.grownBy w' none)=>hpc w' (hp.later hg)
 have hqc':=fun w' (hg:w.grownBy w' none)=>hqc w' (hq.later hg)
 clear hpc hqc hp hq
 subst hpv
 subst hqv
 have HPA:=Lib.hid hpa
 have HQA:=Lib.hid hqa
 clear hpa hqa
 have e0:((l.length:Int) != (l.length:Int))=false:=by simp
 go_enter Tryz.func29,Tryz.ntmps29
 go_wp2
 go_loopw [5] (fun i wr=>∃ k:Nat,k≤l.length∧i=.int .i64 k∧w.grownBy wr none) (fun i _=>l.length - (intOf i).toNat)
 case atStart=>exact ⟨0,Nat.zero_le _,rfl,Yag _ _⟩
 case round =>
  obtain ⟨k,hk,rfl,R⟩:=hrel
  rcases Nat.lt_or_ge k l.length with h1|h1
  ·have c1:=hpc' _ R k h1
   have c2:=hqc' _ R k h1
   have ea:=HPA.out (by omega)
   have eb:=HQA.out (by omega)
   subst ea
   subst eb
   generalize l.getD k 0=x at *
   have h3':(((x:Nat):Int) != ((x:Nat):Int))=false:=by simp
   go_wp2
   go_quiet (fail)
   go_wp2
   go_roundw
   case rel=>exact ⟨k+1,by omega,by go_num,Yaa R (Ybl _ _)⟩
   case measure=>simp [intOf];omega
  ·go_wp2
   go_ret
   exact ⟨rfl,R⟩
def bkP (b:Blk) (p:Value):Array Value:=#[.int .u64 (b.off:Nat),.int .u64 (b.s:Nat),.bool b.u,.int .i64 b.o,.int .u64 (b.n:Nat),p]
set_option maxHeartbeats 4000000 in
theorem made14 {w:World} {base base':Nat} {p q:Value} {l:List Nat} {b:Blk} (hp:OwnW w base p l) (hq:OwnW w base' q l) (hl:l.length≤1000000) :
  Calls Tryz.prog 31 #[.agg (bkP b p),.agg (bkP b q)] w fun e w'=>e=.returned (.bool true)∧w.grownBy w' none:=by
 obtain ⟨o,s,u,ow,m⟩:=b
 have HNUM:Hid (∀ W:World,w.grownBy W none→Calls Tryz.prog 16 #[p,q] W fun e w'=>e=.returned (.bool true)∧W.grownBy w' none):=Lib.hid (fun W hg=>nums14 (hp.later hg) (hq.later hg) hl)
 have b1:=Yab w (.cells (bkP ⟨o,s,u,ow,m⟩ p) 53)
 have b2:=Yab (w.alloc (.cells (bkP ⟨o,s,u,ow,m⟩ p) 53)) (.cells (bkP ⟨o,s,u,ow,m⟩ q) 83)
 have g1:=World.grownBy_alloc w (.cells (bkP ⟨o,s,u,ow,m⟩ p) 53) none
 have g2:=World.grownBy_alloc (w.alloc (.cells (bkP ⟨o,s,u,ow,m⟩ p) 53)) (.cells (bkP ⟨o,s,u,ow,m⟩ q) 83) none
 have b1':=(g2.block _ (lt_of_block b1) (by simp)).trans b1
 rw [World.size_alloc] at b2
 have g:=Yaa g1 g2
 obtain ⟨W0,hW0⟩:∃ W0,(w.alloc (.cells (bkP ⟨o,s,u,ow,m⟩ p) 53)).alloc (.cells (bkP ⟨o,s,u,ow,m⟩ q) 83)=W0:=⟨_,rfl⟩
 rw [hW0] at b1' b2 g
 obtain ⟨x0,x1,x2,x3,x4,x5⟩:=Ya5 b1'
 obtain ⟨y0,y1,y2,y3,y4,y5⟩:=Ya5 b2
 have HG:=Lib.hid g
 clear hp hq b1 g1 g2 g
 unfold bkP at hW0 ⊢
 have e0:((o:Int) == (o:Int))=true:=by simp
 have e1:((s:Int) == (s:Int))=true:=by simp
 have e2:(u == u)=true:=by simp
 have e3:(ow == ow)=true:=by simp
 have e4:((m:Int) == (m:Int))=true:=by simp
 go_enter Tryz.func31,Tryz.ntmps31
 go_wp2_with (first
  | (go_at_call 16;(with_reducible refine (HNUM.out _ HG.out).mono ?_);rintro e w5 ⟨rfl,hg5⟩))
 go_ret
 exact ⟨rfl,Yaa HG.out hg5⟩
end
section
structure Ycc (w:World) (la:Option Addr) (l:List (ByteArray × Nat)):Prop where
 cells:0<l.length→∃ b off,la=some ⟨b,off,none⟩∧b<w.heap.size∧∀ k,k<l.length→w.cell? ⟨b,off+k*2,none⟩=some (.string (entS l k))∧w.cell? ⟨b,off+k*2+1,none⟩=some (.int .u64 (entO l k:Nat))
theorem info_e14:(Tryz.prog.info? 86).map (fun i=>(i.zero,i.size,i.bytes))=some (some (.agg #[.string ByteArray.empty,.int .u64 0]),2,24):=by kernel_rfl
theorem cellsNm_appE (a b:List (ByteArray × Nat)):Ych (a++b)=Ych a++Ych b:=by simp [Ych,List.flatMap_append]
theorem cellsNm_one (l:List (ByteArray × Nat)):∀ v∈Ych l,v.oneCell'=true:=by
 intro v hv
 unfold Ych at hv
 obtain ⟨p,_,hp⟩:=List.mem_flatMap.1 hv
 rcases List.mem_cons.1 hp with rfl|hp
 ·rfl
 ·rw [List.mem_singleton.1 hp];rfl
theorem Ycc.later {w w':World} {la:Option Addr} {l:List (ByteArray × Nat)} (h:Ycc w la l) (hg:w.grownBy w' none):Ycc w' la l where
 cells:=fun hn=>by
  obtain ⟨b,off,h1,h2,h3⟩:=h.cells hn
  exact ⟨b,off,h1,Nat.lt_of_lt_of_le h2 hg.size,fun k hk=>⟨(World.cell?_of_block (w:=w) (a:=⟨b,off+k*2,none⟩) (hg.block b h2 (by simp))).trans (h3 k hk).1,(World.cell?_of_block (w:=w) (a:=⟨b,off+k*2+1,none⟩) (hg.block b h2 (by simp))).trans (h3 k hk).2⟩⟩
theorem Ya2 {w2:World} {base n m c:Nat} {v:Value} {l k:List (ByteArray × Nat)} {la:Option Addr} (hown:OwnN w2 base 86 v l) (hp:Ycc w2 la k) (hn:l.length=n) (hk:k.length=m) (hm:n+m≤1000000) (hbase:base≤w2.heap.size)
  {ops:Array Oper} {rest:List Oper} {o:Oper} {a:Act} {Q:Exit→Act→World→Prop} (hgd:o.guard=none) (s x:Operand)
  (ho:o.op=.call { callee:=.builtin .append,args:=#[s,x],argTypes:=#[33,33] })
  (hs:a.eval s=v) (hx:a.eval x=.slice la m c)
  (h:∀ v' w',OwnN w' base 86 v' (l++k)→w2.grownBy w' v.ownBlock→wpList Tryz.prog ops Q rest (a.put o.dst v') w') :
  wpList Tryz.prog ops Q (o::rest) a w2:=by
 subst hn hk
 obtain ⟨i0,hi,hz0,hz1,hz2⟩:=info_parts info_e14
 rcases la with _|ad
 ·have hm0:k=[]:=by
   cases k with
   | nil=>rfl
   | cons b r =>
    obtain ⟨_,_,hb,_⟩:=hp.cells (by simp)
    cases hb
  subst hm0
  refine wpList_plain hgd fun K hK=>?_
  have hrun:=Ydv (P:=Tryz.prog) (w:=w2) base 33 o.type 86 i0 2 c Tryz.underlying33 hi v l.length (Ych l) hown
  unfold Oper.wp
  simp only [List.length_nil] at hx
  simp [execOp,ho,resolve,invoke,builtin,hs,hx,hrun,Result.andThen]
  exact hK _ _ (h v w2 (by simpa using hown) (Yag _ _))
 ·refine wpList_append_own_at _ hgd s x 33 ho base 86 i0 (.agg #[.string ByteArray.empty,.int .u64 0]) 2 24 Tryz.underlying33 hi hz0 hz1 hz2 rfl (by decide) v l.length (Ych l) hs hown ad k.length c (Ych k) hx (Yef k) ?_ (cellsNm_one k) (by unfold maxLen;omega) (by omega) hbase fun v' w' h1 h2 _ _=>h v' w' (by unfold OwnN;rw [cellsNm_appE,List.length_append];exact h1) h2
  intro j u hj
  have hjm:j<k.length*2:=by
   rcases Nat.lt_or_ge j (k.length*2) with h'|h'
   ·exact h'
   ·rw [List.getElem?_eq_none (by rw [Yef];exact h')] at hj;cases hj
  obtain ⟨b,off,hb,_,hcs⟩:=hp.cells (by omega)
  injection hb with hb
  subst hb
  have hadd:(⟨b,off,none⟩:Addr).add j=⟨b,off+j,none⟩:=by unfold Addr.add;split <;> simp_all
  rw [hadd]
  obtain ⟨c0,c1⟩:=hcs (j / 2) (by omega)
  obtain ⟨a0,a1⟩:=cellsNm_at k (j / 2) (by omega)
  rcases (show j % 2=0∨j % 2=1 by omega) with e|e
  ·rw [show j / 2*2=j by omega] at a0
   rw [show off+j / 2*2=off+j by omega] at c0
   rw [c0,← hj,a0]
  ·rw [show j / 2*2+1=j by omega] at a1
   rw [show off+j / 2*2+1=off+j by omega] at c1
   rw [c1,← hj,a1]
theorem own_emptyE (w:World) (base:Nat) (hb:base≤w.heap.size):OwnN (w.alloc (.cells #[] 86)) base 86 (.slice (some ⟨w.heap.size,0,none⟩) 0 0) [] :=
 ⟨rfl,.inr ⟨w.heap.size,0,#[],rfl,hb,Yab w _,Nat.le_refl _,Nat.zero_le _,rfl,rfl⟩⟩
theorem OwnN.ents {w:World} {base:Nat} {v:Value} {l:List (ByteArray × Nat)} (h:OwnN w base 86 v l):∃ a c,v=.slice a l.length c∧l.length≤c∧(∀ A C:List (ByteArray × Nat),∀ q,l=A++q::C→∃ g,a=some ⟨g,0,none⟩∧Ycc w a A∧Ycc w (some ⟨g,(A.length+1)*2,none⟩) C)∧Ycc w a l:=by
 obtain ⟨a,c,g,e1,e2,e3⟩:=h.addr
 have hle:l.length≤c:=by
  rcases h.2 with ⟨h1,h2⟩|⟨g',cap,cur,hv,_,_,h3,_⟩
  ·omega
  ·rw [e1] at hv;injection hv with _ _ k3;omega
 have hlt:∀ (hl:0<l.length),g<w.heap.size:=fun hl=>by
  have e4:=e2 hl
  rw [e1,e4] at h
  exact (World.ownsRow.lt h g rfl).2
 refine ⟨a,c,e1,hle,fun A C q e=>?_,⟨fun hl=>⟨g,0,e2 hl,hlt hl,fun k hk=>by rw [Nat.zero_add];exact e3 w h k hk⟩⟩⟩
 have hl:0<l.length:=by rw [e,List.length_append,List.length_cons];omega
 have hlen:l.length=A.length+1+C.length:=by rw [e,List.length_append,List.length_cons];omega
 refine ⟨g,e2 hl,⟨fun hA=>⟨g,0,e2 hl,hlt hl,fun k hk=>?_⟩⟩,⟨fun hC=>⟨g,(A.length+1)*2,rfl,hlt hl,fun k hk=>?_⟩⟩⟩
 ·obtain ⟨k1,k2⟩:=e3 w h k (by omega)
  have:l.getD k (ByteArray.empty,0)=A.getD k (ByteArray.empty,0):=by rw [e,List.getD_eq_getElem?_getD,List.getD_eq_getElem?_getD,List.getElem?_append_left hk]
  unfold entS entO at *
  rw [this] at k1 k2
  rw [Nat.zero_add];exact ⟨k1,k2⟩
 ·obtain ⟨k1,k2⟩:=e3 w h (A.length+1+k) (by omega)
  have:l.getD (A.length+1+k) (ByteArray.empty,0)=C.getD k (ByteArray.empty,0):=by
   rw [e,List.getD_eq_getElem?_getD,List.getD_eq_getElem?_getD,List.getElem?_append_right (by omega),show A.length+1+k - A.length=k+1 by omega,List.getElem?_cons_succ]
  unfold entS entO at *
  rw [this] at k1 k2
  rw [show (A.length+1)*2+k*2=(A.length+1+k)*2 by omega]
  exact ⟨k1,k2⟩
end
end Go.Proofs.YtfhiljglfhekdaaGreat
