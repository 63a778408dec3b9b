/-
  Texts of one layer, one behind the other: memory, contracts of the functions, and what follows of them.
  Conditions: as each theorem says.
-/
import Derived.Test.YtfhiljglfhekdaaGreatLKcc
import Derived.Test.YtfhiljglfhekdaaGreatLMob
set_option linter.unusedVariables false
set_option linter.unusedSimpArgs false
set_option maxRecDepth 100000
namespace Go.Proofs.YtfhiljglfhekdaaGreat
open Go.RowKit
section
def kv (x:KB):Value:=.slice x.a x.m x.c
def dats (l:List KB):List Nat:=l.filterMap fun x=>(kv x).ownBlock
theorem Ycl (a b:List KB):dats (a++b)=dats a++dats b:=List.filterMap_append ..
theorem Ycg (x:KB) (r:List KB):dats (x::r)=dats [x]++dats r:=Ycl [x] r
theorem Yee {x:KB} (h:x.a=none):dats [x]=[]:=by simp [dats,kv,h,Value.ownBlock]
theorem dats_same {x y:KB} (h:x.a=y.a):dats [x]=dats [y]:=by
 unfold dats kv
 simp only [List.filterMap_cons,List.filterMap_nil]
 rw [h]
 cases y.a <;> rfl
theorem dats_mem {l:List KB} {g:Nat}:g∈dats l↔∃ x∈l,(kv x).ownBlock=some g:=by unfold dats;rw [List.mem_filterMap]
def growF (F:Nat→Prop) (w w':World):Nat→Prop:=fun g=>F g∨(w.heap.size≤g∧g<w'.heap.size)
def KB.bare (x:KB):Prop:=x.a=none∧x.m=0∧x.c=0∧x.d=[]
def Yb4:List (ByteArray × Nat)→ByteArray→Option Nat
 | [],_=>none
 | p::r,s=>if p.1=s then some p.2 else Yb4 r s
structure SaysN (D:DataW Unit) (ns:List (ByteArray × Nat)):Prop where
 size:Maps.size D=ns.length
 has:∀ s:ByteArray,Maps.has D (.string s.data.toList)=(Yb4 ns s).isSome
 at_:∀ s:ByteArray,D.atKey (.string s.data.toList) (.lit (.int .u64 0))=.lit (.int .u64 ((Yb4 ns s).getD 0:Nat))
def MapN (w:World) (M:Nat) (ns:List (ByteArray × Nat)):Prop:=∃ D:DataW Unit,w.ownsMap Tryz.prog 9 (plainElem Tryz.prog 26) M ns.length D∧SaysN D ns
structure Md (w:World) (F:Nat→Prop) (P all:Nat) (l:List KB) (ns:List (ByteArray × Nat)) (lv:Nat→Bool):Prop where
 ex:∃ g cap f M,StB w P g cap l.length all f (.map (some M)) lv∧Ycb f l.length=l∧P≠g∧F g∧F M∧MapN w M ns
 own:∀ x∈l,OwnW w 0 (kv x) x.d
 nod:(dats l).Nodup
 dF:∀ g∈dats l,F g
 free:∀ x∈l,x.b.u=false→x.bare
 pF:F P
 lt:∀ g,F g→g<w.heap.size
def MdR (w w':World) (F:Nat→Prop) (P all:Nat) (l:List KB) (ns:List (ByteArray × Nat)) (lv:Nat→Bool):Prop:=Md w' (growF F w w') P all l ns lv∧Ybo F w w'
section
variable {w w' w1 w2:World} {F F':Nat→Prop} {P g cap n all i M:Nat} {f f':Nat→KB} {mv:Value} {lv:Nat→Bool} {ns:List (ByteArray × Nat)} {l l' A C:List KB} {x:KB}
theorem MapN.kept {row:Option Nat} (h:MapN w M ns) (hg:w.grownBy w' row) (hr:some M≠row):MapN w' M ns:=by
 obtain ⟨D,h1,h2⟩:=h
 exact ⟨D,h1.kept hg hr,h2⟩
theorem MapN.later (h:MapN w M ns) (hg:w.grownBy w' none):MapN w' M ns:=h.kept hg (by simp)
theorem MapN.turned {p:Nat→Prop} (h:MapN w M ns) (ht:Ybo p w w') (hM:¬ p M):MapN w' M ns:=by
 obtain ⟨D,h1,h2⟩:=h
 exact ⟨D,map_turned h1 ht hM,h2⟩
theorem MapN.blk (h:MapN w M ns):∃ es clock,w.heap[M]?=some (.map es clock):=by
 obtain ⟨D,⟨es,clock,h1,_⟩,_⟩:=h
 exact ⟨es,clock,h1⟩
theorem MapN.ne (h:MapN w M ns) {b:Nat} {c:Array Value} {t:TypeId} {fr:Nat × Nat} (hb:w.heap[b]?=some (.cells c t fr)):M≠b:=by
 obtain ⟨es,clock,h1⟩:=h.blk
 intro e
 subst e
 rw [h1] at hb
 cases hb
theorem Md.mono (h:Md w F P all l ns lv) (hF:∀ g,F g→F' g) (hlt:∀ g,F' g→g<w.heap.size):Md w F' P all l ns lv:=by
 obtain ⟨g,cap,f,M,h1,h2,h3,h4,h5,h6⟩:=h.ex
 exact ⟨⟨g,cap,f,M,h1,h2,h3,hF g h4,hF M h5,h6⟩,h.own,h.nod,fun g hg=>hF g (h.dF g hg),h.free,hF P h.pF,hlt⟩
theorem Md.later (h:Md w F P all l ns lv) (hg:w.grownBy w' none):Md w' F P all l ns lv:=by
 obtain ⟨g,cap,f,M,h1,h2,h3,h4,h5,h6⟩:=h.ex
 exact ⟨⟨g,cap,f,M,h1.later hg,h2,h3,h4,h5,h6.later hg⟩,fun x hx=>(h.own x hx).later hg,h.nod,h.dF,h.free,h.pF,fun g hF=>Nat.lt_of_lt_of_le (h.lt g hF) hg.size⟩
theorem Ycp (hlt:∀ g,F g→g<w.heap.size) (hs:w.heap.size≤w'.heap.size):∀ g,growF F w w' g→g<w'.heap.size:=fun g hg=>by
 rcases hg with h|h
 ·exact Nat.lt_of_lt_of_le (hlt g h) hs
 ·exact h.2
theorem MdR.trans (h1:MdR w w1 F P all l ns lv) (h2:MdR w1 w2 (growF F w w1) P all l' ns lv) (hlt:∀ g,F g→g<w.heap.size):MdR w w2 F P all l' ns lv:=by
 have hs1:=h1.2.size
 have hs2:=h2.2.size
 refine ⟨h2.1.mono (fun g hg=>?_) (Ycp hlt (Nat.le_trans hs1 hs2)),Ybx h1.2 h2.2 (fun i hi=>?_)⟩
 ·rcases hg with (h|h)|h
  ·exact .inl h
  ·exact .inr ⟨h.1,by omega⟩
  ·exact .inr ⟨by omega,h.2⟩
 ·rcases hi with h|h
  ·exact .inl h
  ·exact .inr h.1
theorem MdR.refl (h:Md w F P all l ns lv):MdR w w F P all l ns lv :=
 ⟨h.mono (fun g hg=>.inl hg) (Ycp h.lt (Nat.le_refl _)),⟨rfl,rfl,rfl,Nat.le_refl _,fun _ _ _=>rfl⟩⟩
theorem MdR.of_later (h:Md w F P all l ns lv) (hg:w.grownBy w' none):MdR w w' F P all l ns lv :=
 ⟨(h.later hg).mono (fun g hg=>.inl hg) (Ycp h.lt hg.size),Ybm hg (fun k e=>by cases e)⟩
theorem MdR.later (h:MdR w w1 F P all l ns lv) (hg:w1.grownBy w2 none):MdR w w2 F P all l ns lv:=by
 have hs:=hg.size
 refine ⟨(h.1.later hg).mono (fun g hg=>?_) (fun g hg2=>?_),Ybx h.2 (Ybm hg (p:=fun _=>False) (fun k e=>by cases e)) (fun i hi=>hi.elim)⟩
 ·rcases hg with h|h
  ·exact .inl h
  ·exact .inr ⟨h.1,by omega⟩
 ·rcases hg2 with h3|h3
  ·exact Nat.lt_of_lt_of_le (h.1.lt g (.inl h3)) hs
  ·exact h3.2
theorem MdR.first (hg:w.grownBy w1 none) (h:MdR w1 w2 F P all l ns lv) (hlt:∀ g,F g→g<w.heap.size):MdR w w2 F P all l ns lv:=by
 have hs:=hg.size
 refine ⟨h.1.mono (fun g hg=>?_) (Ycp hlt (Nat.le_trans hs h.2.size)),Ybx (Ybm hg (p:=F) (fun k e=>by cases e)) h.2 (fun i hi=>.inl hi)⟩
 rcases hg with h|h
 ·exact .inl h
 ·exact .inr ⟨by omega,h.2⟩
theorem ownW_turned {p:Nat→Prop} {v:Value} {d:List Nat} (h:OwnW w 0 v d) (ht:Ybo p w w') (hne:∀ g,v.ownBlock=some g→¬ p g):OwnW w' 0 v d:=by
 refine ⟨h.1,?_⟩
 rcases h.2 with hn|⟨g,cap,cur,rfl,hb,hgg,rest⟩
 ·exact .inl hn
 ·exact .inr ⟨g,cap,cur,rfl,hb,Yay ht hgg (hne g rfl),rest⟩
theorem Ycn {v:Value} {d:List Nat} (h:OwnW w 0 v d) (hg:v.ownBlock=some g):∃ cur,w.heap[g]?=some (.cells cur 26 (0,0)):=by
 rcases h.2 with ⟨rfl,_⟩|⟨g',cap,cur,rfl,_,hgg,_⟩
 ·cases hg
 ·injection hg with hg
  subst hg
  exact ⟨cur,hgg⟩
theorem ownW_form (h:OwnW w 0 (kv x) x.d):Yb1 w x.a x.d∧x.d.length=x.m:=by
 obtain ⟨a,c,e⟩:=h.slice
 unfold kv at e
 injection e with e1 e2 e3
 refine ⟨?_,e2.symm⟩
 obtain ⟨a',c',e',h'⟩:=OwnW.lie h
 unfold kv at e'
 injection e' with f1 f2 f3
 rw [f1];exact h'
theorem Md.row_ne (h:Md w F P all l ns lv) (hst:StB w P g cap n all f mv lv) (hx:x∈l):∀ k,(kv x).ownBlock=some k→¬ (k=P∨k=g):=fun k hk=>by
 obtain ⟨cur,hc⟩:=Ycn (h.own x hx) hk
 obtain ⟨cur2,hc2,_⟩:=hst.row.blk
 rintro (e|e)
 ·exact Ybu hc hst.box (by decide) e
 ·exact Ybu hc hc2 (by decide) e
theorem Md.turn (h:Md w F P all l ns lv) (hst:StB w P g cap n all f (.map (some M)) lv) (hFg:F g) (hFM:F M) (hmp:MapN w M ns) {g' cap':Nat} (hst':StB w' P g' cap' l'.length all f' (.map (some M)) lv) (hk:Ycb f' l'.length=l')
  (ht:Ybo (fun i=>i=P∨i=g) w w') (hPg:P≠g) (hloc:g'=g∨w.heap.size≤g') (hn:(dats l').Nodup) (hsub:∀ q∈dats l',q∈dats l) (ho:∀ y∈l',y.bare∨∃ z∈l,kv y=kv z∧y.d=z.d) (hfr:∀ y∈l',y.b.u=false→y.bare):MdR w w' F P all l' ns lv:=by
 have hMT:¬ (M=P∨M=g):=by
  obtain ⟨cur2,hc2,_⟩:=hst.row.blk
  rintro (e|e)
  ·exact hmp.ne hst.box e
  ·exact hmp.ne hc2 e
 refine ⟨⟨⟨g',cap',f',M,hst',hk,?_,?_,.inl hFM,hmp.turned ht hMT⟩,fun y hy=>?_,hn,fun q hq=>.inl (h.dF q (hsub q hq)),hfr,.inl h.pF,Ycp h.lt ht.size⟩,turned_mono ht (fun i _ hi=>by rcases hi with rfl|rfl;exact h.pF;exact hFg)⟩
 ·intro e
  rcases hloc with h1|h1
  ·exact hPg (e.trans h1)
  ·have:=h.lt P h.pF
   omega
 ·rcases hloc with h1|h1
  ·rw [h1];exact .inl hFg
  ·exact .inr ⟨h1,hst'.row.lt⟩
 ·rcases ho y hy with hb|⟨z,hz,e1,e2⟩
  ·obtain ⟨b1,b2,b3,b4⟩:=hb
   unfold kv
   rw [b1,b2,b3,b4]
   exact World.ownsRow_nil _ _ _ _
  ·rw [e1,e2]
   exact ownW_turned (h.own z hz) ht (h.row_ne hst hz)
theorem jSK_dats {out:List KB} {y:KB} (ho:∀ p∈out,p.b.u=false→p.bare) (hy:y.b.u=false→y.bare):dats (jSK out y)=dats out++dats [y]∧∀ p∈jSK out y,p.b.u=false→p.bare:=by
 unfold jSK
 split
 ·rename_i p hp
  split
  ·rename_i hu
   obtain ⟨X,hX⟩:=List.getLast?_eq_some_iff.1 hp
   subst hX
   have hpb:=ho p (by simp) hu.1
   have hyb:=hy hu.2
   refine ⟨?_,fun q hq hqu=>?_⟩
   ·rw [List.dropLast_concat,Ycl,Ycl,Yee hyb.1,List.append_nil]
    congr 1
   ·rw [List.dropLast_concat] at hq
    rcases List.mem_append.1 hq with h|h
    ·exact ho q (by simp [h]) hqu
    ·rw [List.mem_singleton.1 h];exact hpb
  ·refine ⟨Ycl _ _,fun q hq hqu=>?_⟩
   rcases List.mem_append.1 hq with h|h
   ·exact ho q h hqu
   ·rw [List.mem_singleton.1 h] at hqu ⊢;exact hy hqu
 ·refine ⟨Ycl _ _,fun q hq hqu=>?_⟩
  rcases List.mem_append.1 hq with h|h
  ·exact ho q h hqu
  ·rw [List.mem_singleton.1 h] at hqu ⊢;exact hy hqu
theorem jnL_dats (hf:∀ p∈l,p.b.u=false→p.bare):dats (jnL l)=dats l∧∀ p∈jnL l,p.b.u=false→p.bare:=by
 have key:∀ (l out:List KB),(∀ p∈l,p.b.u=false→p.bare)→(∀ p∈out,p.b.u=false→p.bare)→dats (l.foldl jSK out)=dats out++dats l∧∀ p∈l.foldl jSK out,p.b.u=false→p.bare:=by
  intro l
  induction l with
  | nil=>intro out _ ho;exact ⟨by simp [dats],ho⟩
  | cons y r ih =>
   intro out hl ho
   obtain ⟨h1,h2⟩:=jSK_dats ho (hl y (by simp))
   obtain ⟨h3,h4⟩:=ih (jSK out y) (fun p hp=>hl p (by simp [hp])) h2
   exact ⟨by rw [List.foldl_cons,h3,h1,Ycg y r,List.append_assoc],h4⟩
 obtain ⟨h1,h2⟩:=key l [] hf (fun p hp=>by cases hp)
 exact ⟨by unfold jnL;rw [h1];rfl,h2⟩
theorem jnL_mem {y:KB} (hf:∀ p∈l,p.b.u=false→p.bare) (hy:y∈jnL l):y.bare∨y∈l:=by
 have h0:=(jnL_dats hf).2 y hy
 cases hu:y.b.u with
 | false=>exact .inl (h0 hu)
 | true =>
  have hk:Ycb (fun j=>l.getD j default) l.length=l:=klist_of rfl fun j _=>rfl
  rw [← hk,← jnK_L] at hy
  rcases jnK_mem _ _ y hy with ⟨j,h1,h2⟩|⟨j,h1,h2,_⟩
  ·refine .inr ?_
   rw [h2,List.getD_eq_getElem?_getD,List.getElem?_eq_getElem h1]
   exact List.getElem_mem h1
  ·rw [hu] at h2;cases h2
structure Lay (E:Nat) (l:List KB):Prop where
 ch:Ybk E 3776 (l.map KB.b)
 top:E≤4800
theorem Lay.few {E:Nat} (h:Lay E l):l.length≤64:=by
 have h1:=h.ch.le
 have h2:=h.top
 rw [List.length_map] at h1
 omega
theorem Lay.mem {E:Nat} (h:Lay E l) (hx:x∈l):x.b.off % 16=0∧3776≤x.b.off∧x.b.off+x.b.s≤E∧0<x.b.s∧x.b.s % 16=0:=h.ch.mem (by decide) _ (List.mem_map_of_mem hx)
theorem Ydp {j:Nat} (hk:Ycb f n=l) (hj:j<n):f j∈l:=by
 rw [← hk]
 exact List.mem_map_of_mem (List.mem_range.2 hj)
theorem merge_md (h:Md w F P all l ns lv) (hn:l.length≤1000) (hS:∀ x∈l,x.b.s≤10000000) :
  Calls Tryz.prog 40 #[.pointer (some ⟨P,0,none⟩)] w fun e w'=>e=.returned (.tuple #[])∧MdR w w' F P all (jnL l) ns lv:=by
 obtain ⟨g,cap,f,M,hst,hk,hPg,hFg,hFM,hmp⟩:=h.ex
 refine (merge_any hst hn (fun j hj=>hS _ (Ydp hk hj)) hPg).mono ?_
 rintro e w' ⟨rfl,hM⟩
 refine ⟨rfl,?_⟩
 obtain ⟨f',hst',hf'⟩:=hM.ex
 have he:jnK f l.length=jnL l:=by rw [jnK_L,hk]
 rw [he] at hst' hf'
 obtain ⟨hd1,hd2⟩:=jnL_dats h.free
 exact h.turn hst hFg hFM hmp hst' (klist_of rfl hf') hM.turned hPg (.inl rfl) (by rw [hd1];exact h.nod) (fun q hq=>by rw [hd1] at hq;exact hq) (fun y hy=>by
  rcases jnL_mem h.free hy with h1|h1
  ·exact .inl h1
  ·exact .inr ⟨y,h1,rfl,rfl⟩) hd2
theorem dats_drop {A C:List KB} {x y:KB} (hy:y.bare) (h:(dats (A++x::C)).Nodup):(dats (A++y::C)).Nodup∧∀ q∈dats (A++y::C),q∈dats (A++x::C):=by
 have e1:dats (A++y::C)=dats A++dats C:=by rw [Ycl,Ycg y C,Yee hy.1,List.nil_append]
 have e2:dats (A++x::C)=dats A++(dats [x]++dats C):=by rw [Ycl,Ycg x C]
 have hs:(dats A++dats C).Sublist (dats A++(dats [x]++dats C)):=List.Sublist.append (List.Sublist.refl _) (List.sublist_append_right _ _)
 exact ⟨by rw [e1];rw [e2] at h;exact h.sublist hs,fun q hq=>by rw [e1] at hq;rw [e2];exact hs.subset hq⟩
theorem dats_keep {A C:List KB} {x y:KB} (hy:y.a=x.a):dats (A++y::C)=dats (A++x::C):=by
 rw [Ycl,Ycl,Ycg y C,Ycg x C,dats_same hy]
theorem Yeb (o s:Nat):(Ya9 o s).bare:=⟨rfl,rfl,rfl,rfl⟩
theorem Yey (x:KB):x.free.bare:=⟨rfl,rfl,rfl,rfl⟩
theorem Md.put (h:Md w F P all (A++x::C) ns lv) (hst:StB w P g cap n all f (.map (some M)) lv) (hn:(A++x::C).length=n) (hk:Ycb f n=A++x::C) (hPg:P≠g) (hFg:F g) (hFM:F M) (hmp:MapN w M ns) {y:KB} (hi:A.length=i)
  (hr:RowF w' g cap n (updK f i y)) (hg:w.grownBy w' (some g)) (hy:y.bare∨(kv y=kv x∧y.d=x.d∧(y.b.u=false→x.b.u=false))):MdR w w' F P all (A++y::C) ns lv:=by
 have hst':=hst.turn hr hg hPg
 obtain ⟨_,_,hk'⟩:=Ybn hk hi y
 have hl:(A++y::C).length=n:=by rw [← hn];simp
 have hd:(dats (A++y::C)).Nodup∧∀ q∈dats (A++y::C),q∈dats (A++x::C):=by
  rcases hy with h1|⟨h1,_⟩
  ·exact dats_drop h1 h.nod
  ·have:dats (A++y::C)=dats (A++x::C):=dats_keep (by unfold kv at h1;injection h1)
   rw [this];exact ⟨h.nod,fun q hq=>hq⟩
 rw [← hl] at hst' hk'
 refine h.turn hst hFg hFM hmp hst' hk' (Ybm hg (fun k e=>.inr (by injection e with e;exact e.symm))) hPg (.inl rfl) hd.1 hd.2 (fun z hz=>?_) (fun z hz hu=>?_)
 ·rcases List.mem_append.1 hz with h1|h1
  ·exact .inr ⟨z,by simp [h1],rfl,rfl⟩
  ·rcases List.mem_cons.1 h1 with rfl|h2
   ·rcases hy with h3|⟨h3,h4,_⟩
    ·exact .inl h3
    ·exact .inr ⟨x,by simp,h3,h4⟩
   ·exact .inr ⟨z,by simp [h2],rfl,rfl⟩
 ·rcases List.mem_append.1 hz with h1|h1
  ·exact h.free z (by simp [h1]) hu
  ·rcases List.mem_cons.1 h1 with rfl|h2
   ·rcases hy with h3|⟨h3,h4,h5⟩
    ·exact h3
    ·have:=h.free x (by simp) (h5 hu)
     obtain ⟨b1,b2,b3,b4⟩:=this
     unfold kv at h3
     injection h3 with c1 c2 c3
     exact ⟨by rw [c1,b1],by rw [c2,b2],by rw [c3,b3],by rw [h4,b4]⟩
   ·exact h.free z (by simp [h2]) hu
theorem release_md (h:Md w F P all (A++x::C) ns lv) (hn:(A++x::C).length≤1000) (hS:∀ y∈A++x::C,y.b.s≤10000000) (hi:A.length=i) :
  Calls Tryz.prog 93 #[.pointer (some ⟨P,0,none⟩),.int .i64 i] w fun e w'=>e=.returned (.tuple #[])∧MdR w w' F P all (jnL (A++x.free::C)) ns lv:=by
 obtain ⟨g,cap,f,M,hst,hk,hPg,hFg,hFM,hmp⟩:=h.ex
 obtain ⟨N,hN⟩:∃ N,(A++x::C).length=N:=⟨_,rfl⟩
 rw [hN] at hst hk hn
 obtain ⟨hfi,hiN,hk2⟩:=Ybn hk hi x.free
 refine (release_any hst hn (fun j hj=>hS _ (Ydp hk hj)) hPg hiN).mono ?_
 rintro e w' ⟨rfl,V,hgV,hM⟩
 refine ⟨rfl,?_⟩
 rw [hfi] at hM
 obtain ⟨f',hst',hf'⟩:=hM.ex
 have he:jnK (updK f i x.free) N=jnL (A++x.free::C):=by rw [jnK_L,hk2]
 rw [he] at hst' hf'
 have hfr:∀ y∈A++x.free::C,y.b.u=false→y.bare:=fun y hy hu=>by
  rcases List.mem_append.1 hy with h1|h1
  ·exact h.free y (by simp [h1]) hu
  ·rcases List.mem_cons.1 h1 with rfl|h2
   ·exact Yey x
   ·exact h.free y (by simp [h2]) hu
 obtain ⟨hd1,hd2⟩:=jnL_dats hfr
 obtain ⟨hd3,hd4⟩:=dats_drop (Yey x) h.nod
 refine h.turn hst hFg hFM hmp hst' (klist_of rfl hf') (Ybx (Ybm hgV (fun k e=>.inr (by injection e with e;exact e.symm))) hM.turned (fun i hi=>.inl hi)) hPg (.inl rfl) (by rw [hd1];exact hd3) (fun q hq=>by rw [hd1] at hq;exact hd4 q hq) (fun y hy=>?_) hd2
 rcases jnL_mem hfr hy with h1|h1
 ·exact .inl h1
 ·rcases List.mem_append.1 h1 with h2|h2
  ·exact .inr ⟨y,by simp [h2],rfl,rfl⟩
  ·rcases List.mem_cons.1 h2 with rfl|h3
   ·exact .inl (Yey x)
   ·exact .inr ⟨y,by simp [h3],rfl,rfl⟩
theorem Md.moved (h:Md w F P all (A++x::C) ns lv) (hst:StB w P g cap n all f (.map (some M)) lv) (hn:(A++x::C).length=n) (hk:Ycb f n=A++x::C) (hPg:P≠g) (hFg:F g) (hFM:F M) (hmp:MapN w M ns) (hi:A.length=i) {size:Nat} (hM:Moved w w' P g all (n+1) (splF f i size) (.map (some M)) lv) :
  MdR w w' F P all (A++x.sized size::Ya9 (x.b.off+size) (x.b.s - size)::C) ns lv:=by
 obtain ⟨g',cap',hst',ht,hloc⟩:=hM
 have hk':=klist_spl (size:=size) hk hi
 have hl:(A++x.sized size::Ya9 (x.b.off+size) (x.b.s - size)::C).length=n+1:=by rw [← hn];simp;omega
 have hd:dats (A++x.sized size::Ya9 (x.b.off+size) (x.b.s - size)::C)=dats (A++x::C):=by
  rw [Ycl,Ycg (x.sized size),Ycg (Ya9 _ _) C,Yee (Yeb _ _).1,List.nil_append,Ycl,Ycg x C,dats_same (x:=x.sized size) (y:=x) rfl]
 rw [← hl] at hst' hk'
 refine h.turn hst hFg hFM hmp hst' hk' ht hPg hloc (by rw [hd];exact h.nod) (fun q hq=>by rw [hd] at hq;exact hq) (fun z hz=>?_) (fun z hz hu=>?_)
 ·rcases List.mem_append.1 hz with h1|h1
  ·exact .inr ⟨z,by simp [h1],rfl,rfl⟩
  ·rcases List.mem_cons.1 h1 with rfl|h2
   ·exact .inr ⟨x,by simp,rfl,rfl⟩
   ·rcases List.mem_cons.1 h2 with rfl|h3
    ·exact .inl (Yeb _ _)
    ·exact .inr ⟨z,by simp [h3],rfl,rfl⟩
 ·rcases List.mem_append.1 hz with h1|h1
  ·exact h.free z (by simp [h1]) hu
  ·rcases List.mem_cons.1 h1 with rfl|h2
   ·exact h.free x (by simp) hu
   ·rcases List.mem_cons.1 h2 with rfl|h3
    ·exact Yeb _ _
    ·exact h.free z (by simp [h3]) hu
theorem split_md (h:Md w F P all (A++x::C) ns lv) (hn:(A++x::C).length≤900) (hi:A.length=i) {size:Nat} (hsz:size≤x.b.s) (hlt:x.b.off+x.b.s<1000000000) :
  Calls Tryz.prog 112 #[.pointer (some ⟨P,0,none⟩),.int .i64 i,.int .u64 size] w fun e w'=>e=.returned (.tuple #[])∧MdR w w' F P all (A++x.sized size::Ya9 (x.b.off+size) (x.b.s - size)::C) ns lv:=by
 obtain ⟨g,cap,f,M,hst,hk,hPg,hFg,hFM,hmp⟩:=h.ex
 obtain ⟨N,hN⟩:∃ N,(A++x::C).length=N:=⟨_,rfl⟩
 rw [hN] at hst hk hn
 obtain ⟨hfi,hiN,_⟩:=Ybn hk hi x
 refine (split_any hst hn hPg hiN (by rw [hfi];exact hsz) (by rw [hfi];exact hlt)).mono ?_
 rintro e w' ⟨rfl,hM⟩
 exact ⟨rfl,h.moved hst hN hk hPg hFg hFM hmp hi hM⟩
def cutK (x:KB) (need:Nat):List KB:=if x.b.s - need<48 then [x] else [x.sized need,Ya9 (x.b.off+need) (x.b.s - need)]
theorem cut_md (h:Md w F P all (A++x::C) ns lv) (hn:(A++x::C).length≤900) (hi:A.length=i) {need:Nat} (hsz:need≤x.b.s) (hlt:x.b.off+x.b.s<1000000000) :
  Calls Tryz.prog 92 #[.pointer (some ⟨P,0,none⟩),.int .i64 i,.int .u64 need] w fun e w'=>e=.returned (.tuple #[])∧MdR w w' F P all (A++cutK x need++C) ns lv:=by
 obtain ⟨g,cap,f,M,hst,hk,hPg,hFg,hFM,hmp⟩:=h.ex
 obtain ⟨N,hN⟩:∃ N,(A++x::C).length=N:=⟨_,rfl⟩
 rw [hN] at hst hk hn
 obtain ⟨hfi,hiN,_⟩:=Ybn hk hi x
 unfold cutK
 by_cases h1:x.b.s - need<48
 ·rw [if_pos h1]
  refine (cut_no hst hiN (by rw [hfi];exact hsz) (by rw [hfi];omega) (by rw [hfi];exact h1)).mono ?_
  rintro e w' ⟨rfl,rfl⟩
  refine ⟨rfl,?_⟩
  have:=MdR.refl h
  simpa using this
 ·rw [if_neg h1]
  refine (cut_yes hst hn hPg hiN (by rw [hfi];exact hsz) (by rw [hfi];exact hlt) (by rw [hfi];omega)).mono ?_
  rintro e w' ⟨rfl,hM⟩
  refine ⟨rfl,?_⟩
  have:=h.moved hst hN hk hPg hFg hFM hmp hi hM
  simpa using this
theorem fill_md (h:Md w F P all (A++x::C) ns lv) (hi:A.length=i) {m:Nat} (hm:m≤1000000) (hu:x.b.u=true) :
  Calls Tryz.prog 91 #[.pointer (some ⟨P,0,none⟩),.int .i64 i,.int .u64 m] w fun e w'=>e=.returned (.tuple #[])∧∃ N,MdR w w' F P all (A++x.filled m (some ⟨N,0,none⟩)::C) ns lv:=by
 obtain ⟨g,cap,f,M,hst,hk,hPg,hFg,hFM,hmp⟩:=h.ex
 obtain ⟨n,hN⟩:∃ n,(A++x::C).length=n:=⟨_,rfl⟩
 rw [hN] at hst hk
 obtain ⟨hfi,hiN,_⟩:=Ybn hk hi x
 obtain ⟨hwa,hwl⟩:=ownW_form (h.own x (by simp))
 refine (fill_any hst hPg hiN hm (by rw [hfi];exact hwa) (by rw [hfi];exact hwl)).mono ?_
 rintro e w' ⟨rfl,N,hNw,hst',hg,hrow⟩
 refine ⟨rfl,N,?_⟩
 rw [hfi] at hst' hrow
 obtain ⟨_,_,hk'⟩:=Ybn hk hi (x.filled m (some ⟨N,0,none⟩))
 have hl:(A++x.filled m (some ⟨N,0,none⟩)::C).length=n:=by rw [← hN];simp
 rw [← hl] at hst' hk'
 have hdx:dats [x.filled m (some ⟨N,0,none⟩)]=[N]:=by simp [dats,kv,KB.filled,Value.ownBlock]
 have hd:dats (A++x.filled m (some ⟨N,0,none⟩)::C)=dats A++(N::dats C):=by rw [Ycl,Ycg _ C,hdx];rfl
 have hd0:dats (A++x::C)=dats A++(dats [x]++dats C):=by rw [Ycl,Ycg x C]
 have hs:(dats A++dats C).Sublist (dats (A++x::C)):=by rw [hd0];exact List.Sublist.append (List.Sublist.refl _) (List.sublist_append_right _ _)
 have hnd:=h.nod.sublist hs
 have hlt:∀ q∈dats A++dats C,q<N:=fun q hq=>Nat.lt_of_lt_of_le (h.lt q (h.dF q (hs.subset hq))) hNw
 have hNl:N<w'.heap.size:=by
  obtain ⟨cur,hc⟩:=Ycn (g:=N) (OwnW.mono hrow (Nat.zero_le _)) rfl
  exact lt_of_block hc
 have ht:Ybo (fun i=>i=P∨i=g) w w':=Ybm hg (fun k e=>.inr (by injection e with e;exact e.symm))
 have hMg:some M≠some g:=fun e=>by
  obtain ⟨cur2,hc2,_⟩:=hst.row.blk
  injection e with e
  exact hmp.ne hc2 e
 refine ⟨⟨⟨g,cap,_,M,hst',hk',hPg,.inl hFg,.inl hFM,hmp.kept hg hMg⟩,fun y hy=>?_,?_,fun q hq=>?_,fun y hy hyu=>?_,.inl h.pF,Ycp h.lt hg.size⟩,turned_mono ht (fun i _ hi=>by rcases hi with rfl|rfl;exact h.pF;exact hFg)⟩
 ·rcases List.mem_append.1 hy with h1|h1
  ·exact ownW_turned (h.own y (by simp [h1])) ht (h.row_ne hst (by simp [h1]))
  ·rcases List.mem_cons.1 h1 with rfl|h2
   ·exact OwnW.mono hrow (Nat.zero_le _)
   ·exact ownW_turned (h.own y (by simp [h2])) ht (h.row_ne hst (by simp [h2]))
 ·rw [hd,List.nodup_append]
  rw [List.nodup_append] at hnd
  refine ⟨hnd.1,List.nodup_cons.2 ⟨fun hq=>?_,hnd.2.1⟩,fun a ha b hb=>?_⟩
  ·have:=hlt N (by simp [hq]);omega
  ·rcases List.mem_cons.1 hb with rfl|hb
   ·have:=hlt a (by simp [ha]);omega
   ·exact hnd.2.2 a ha b hb
 ·rw [hd] at hq
  rcases List.mem_append.1 hq with h1|h1
  ·exact .inl (h.dF q (hs.subset (by simp [h1])))
  ·rcases List.mem_cons.1 h1 with rfl|h2
   ·exact .inr ⟨hNw,hNl⟩
   ·exact .inl (h.dF q (hs.subset (by simp [h2])))
 ·rcases List.mem_append.1 hy with h1|h1
  ·exact h.free y (by simp [h1]) hyu
  ·rcases List.mem_cons.1 h1 with rfl|h2
   ·exfalso
    have:x.b.u=false:=hyu
    rw [hu] at this;cases this
   ·exact h.free y (by simp [h2]) hyu
end
end
section
def KB.marked (x:KB) (ow:Nat):KB:=⟨⟨x.b.off,x.b.s,true,(ow:Int),x.b.n⟩,x.a,x.m,x.c,x.d⟩
def pieces (x:KB) (pad need ow m N:Nat):List KB:=(if pad=0 then [] else [Ya9 x.b.off pad])++cutK (((Ya9 (x.b.off+pad) (x.b.s - pad)).marked ow).filled m (some ⟨N,0,none⟩)) need
def tkK (l:List KB) (ow m a N:Nat):List KB:=match fitM (l.map KB.b) m a with|some i=>l.take i++pieces (l.getD i default) (padN (gO (l.map KB.b) i) a) (Yat m) ow m N++l.drop (i+1)|none=>l
theorem free_is_kb {x:KB} (hb:x.bare) (hz:x.b=Ya4 x.b.off x.b.s):x=Ya9 x.b.off x.b.s:=by
 obtain ⟨b,a,m,c,d⟩:=x
 obtain ⟨h1,h2,h3,h4⟩:=hb
 simp only at h1 h2 h3 h4 hz ⊢
 subst h1 h2 h3 h4
 unfold Ya9
 rw [← hz]
section
variable {w w':World} {F:Nat→Prop} {P all E:Nat} {ns:List (ByteArray × Nat)} {lv:Nat→Bool} {l:List KB}
set_option maxHeartbeats 4000000 in
theorem mtake_arg (h:Md w F P all l ns lv) (o:Int) (m:Nat) {a:Nat} (ha:a<18446744073709551616) (hno:¬ Ybr a) :
  Calls Tryz.prog 86 #[.pointer (some ⟨P,0,none⟩),.int .i64 o,.int .u64 m,.int .u64 a] w fun e w'=>e=.returned (.agg #[.int .i64 1,.int .u64 0,.int .u64 0])∧w.grownBy w' none:=by
 have b:=Yab w (.cells #[.int .i64 0,.int .u64 0,.int .u64 0] 46)
 have ga:=World.grownBy_alloc w (.cells #[.int .i64 0,.int .u64 0,.int .u64 0] 46) none
 obtain ⟨W0,hW0⟩:∃ W0,w.alloc (.cells #[.int .i64 0,.int .u64 0,.int .u64 0] 46)=W0:=⟨_,rfl⟩
 rw [hW0] at b ga
 have hfl:=fun V=>Ya6 1 V
 have hon:=fun V=>ones_any a ha V
 have HB:=Lib.hid b
 have HG:=Lib.hid ga
 clear h b ga
 by_cases h1:a<16
 ·have h1':(a:Int)<16:=by omega
  clear hno h1 hon
  go_enter Tryz.func86,Tryz.ntmps86
  go_wp2_with (first
   | (go_at_call 110;((with_reducible refine (hon _).mono ?_);rintro e w1 ⟨rfl,rfl⟩))
   | (go_at_call 33;((with_reducible refine (hfl _).mono ?_);rintro e w2 ⟨rfl,hg2⟩;have hb2:=(hg2.block _ (lt_of_block HB.out) (by simp)).trans HB.out;obtain ⟨y0,y1,y2⟩:=Yaf hb2;obtain ⟨z0,z1,z2⟩:=Yak hb2)))
  have q:=Yaz hb2 (x':=.int .i64 1) (y':=.int .u64 0) (z':=.int .u64 0)
  obtain ⟨k0,k1,k2⟩:=Yaf q
  refine bodyPost_ret (v:=.agg #[.int .i64 1,.int .u64 0,.int .u64 0]) (by simp [results,Tryz.results86,go_sem,k0,k1,k2]) rfl ?_
  exact ⟨rfl,Yap (Yaa (Yam (Yaa HG.out hg2) (some w.heap.size)) (Yaa (Yac _ _ _ _) (Yaa (Yac _ _ _ _) (Yac _ _ _ _)))) (Nat.le_refl _)⟩
 ·have h1':¬ (a:Int)<16:=by omega
  by_cases h2:4096<a
  ·have h2':(4096:Int)<(a:Int):=by omega
   clear hno h1 h2 hon
   go_enter Tryz.func86,Tryz.ntmps86
   go_wp2_with (first
    | (go_at_call 110;((with_reducible refine (hon _).mono ?_);rintro e w1 ⟨rfl,rfl⟩))
    | (go_at_call 33;((with_reducible refine (hfl _).mono ?_);rintro e w2 ⟨rfl,hg2⟩;have hb2:=(hg2.block _ (lt_of_block HB.out) (by simp)).trans HB.out;obtain ⟨y0,y1,y2⟩:=Yaf hb2;obtain ⟨z0,z1,z2⟩:=Yak hb2)))
   have q:=Yaz hb2 (x':=.int .i64 1) (y':=.int .u64 0) (z':=.int .u64 0)
   obtain ⟨k0,k1,k2⟩:=Yaf q
   refine bodyPost_ret (v:=.agg #[.int .i64 1,.int .u64 0,.int .u64 0]) (by simp [results,Tryz.results86,go_sem,k0,k1,k2]) rfl ?_
   exact ⟨rfl,Yap (Yaa (Yam (Yaa HG.out hg2) (some w.heap.size)) (Yaa (Yac _ _ _ _) (Yaa (Yac _ _ _ _) (Yac _ _ _ _)))) (Nat.le_refl _)⟩
  ·have h2':¬ (4096:Int)<(a:Int):=by omega
   obtain ⟨z,hz⟩:∃ z,Yeu (a:Int)=z:=⟨_,rfl⟩
   have hz1:¬ z=1:=fun e=>hno (Yeh.2 ⟨ones_pow a ha (by rw [hz];exact e),by omega,by omega⟩)
   have hz2:(z == 1)=false:=by rw [beq_eq_false_iff_ne];exact hz1
   rw [hz] at hon
   clear hno h1 h2 hz
   go_enter Tryz.func86,Tryz.ntmps86
   go_wp2_with (first
    | (go_at_call 110;((with_reducible refine (hon _).mono ?_);rintro e w1 ⟨rfl,rfl⟩))
    | (go_at_call 33;((with_reducible refine (hfl _).mono ?_);rintro e w2 ⟨rfl,hg2⟩;have hb2:=(hg2.block _ (lt_of_block HB.out) (by simp)).trans HB.out;obtain ⟨y0,y1,y2⟩:=Yaf hb2;obtain ⟨z0,z1,z2⟩:=Yak hb2)))
   have q:=Yaz hb2 (x':=.int .i64 1) (y':=.int .u64 0) (z':=.int .u64 0)
   obtain ⟨k0,k1,k2⟩:=Yaf q
   refine bodyPost_ret (v:=.agg #[.int .i64 1,.int .u64 0,.int .u64 0]) (by simp [results,Tryz.results86,go_sem,k0,k1,k2]) rfl ?_
   exact ⟨rfl,Yap (Yaa (Yam (Yaa HG.out hg2) (some w.heap.size)) (Yaa (Yac _ _ _ _) (Yaa (Yac _ _ _ _) (Yac _ _ _ _)))) (Nat.le_refl _)⟩
end
end
section
section
variable {w w':World} {F:Nat→Prop} {P all E:Nat} {ns:List (ByteArray × Nat)} {lv:Nat→Bool} {l:List KB}
set_option maxHeartbeats 4000000 in
theorem mtake_size (o:Int) {m a:Nat} (ha:Ybr a) (hm:m<18446744073709551616) (hb:18446744073709551560<m) (P0:Nat) :
  Calls Tryz.prog 86 #[.pointer (some ⟨P0,0,none⟩),.int .i64 o,.int .u64 m,.int .u64 a] w fun e w'=>e=.returned (.agg #[.int .i64 2,.int .u64 0,.int .u64 0])∧w.grownBy w' none:=by
 have b:=Yab w (.cells #[.int .i64 0,.int .u64 0,.int .u64 0] 46)
 have ga:=World.grownBy_alloc w (.cells #[.int .i64 0,.int .u64 0,.int .u64 0] 46) none
 obtain ⟨W0,hW0⟩:∃ W0,w.alloc (.cells #[.int .i64 0,.int .u64 0,.int .u64 0] 46)=W0:=⟨_,rfl⟩
 rw [hW0] at b ga
 obtain ⟨⟨kk,hkk,hak⟩,ha16,ha4⟩:=Yeh.1 ha
 have hon:=fun V=>ones_any a (by omega) V
 have h1o:Yeu (a:Int)=1:=by rw [hak];exact onesp kk hkk
 rw [h1o] at hon
 have h1':¬ (a:Int)<16:=by omega
 have h2':¬ (4096:Int)<(a:Int):=by omega
 have hfl:=fun V=>Ya6 2 V
 have hnd:=fun V=>need_high m hm (by omega) V
 have HBX:=b
 have HGX:=ga
 replace HBX:=Lib.hid HBX
 replace HGX:=Lib.hid HGX
 clear b ga hm hb ha hak h1o
 go_enter Tryz.func86,Tryz.ntmps86
 go_wp2_with (first
  | (go_at_call 110;((with_reducible refine (hon _).mono ?_);rintro e w1 ⟨rfl,rfl⟩))
  | (go_at_call 89;((with_reducible refine (hnd _).mono ?_);rintro e w1 ⟨rfl,rfl⟩))
  | (go_at_call 33;((with_reducible refine (hfl _).mono ?_);rintro e w2 ⟨rfl,hg2⟩;have hb2:=(hg2.block _ (lt_of_block HBX.out) (by simp)).trans HBX.out;obtain ⟨y0,y1,y2⟩:=Yaf hb2;obtain ⟨z0,z1,z2⟩:=Yak hb2)))
 have q:=Yaz hb2 (x':=.int .i64 2) (y':=.int .u64 0) (z':=.int .u64 0)
 obtain ⟨k0,k1,k2⟩:=Yaf q
 refine bodyPost_ret (v:=.agg #[.int .i64 2,.int .u64 0,.int .u64 0]) (by simp [results,Tryz.results86,go_sem,k0,k1,k2]) rfl ?_
 exact ⟨rfl,Yap (Yaa (Yam (Yaa HGX.out hg2) (some w.heap.size)) (Yaa (Yac _ _ _ _) (Yaa (Yac _ _ _ _) (Yac _ _ _ _)))) (Nat.le_refl _)⟩
theorem fit_md (h:Md w F P all l ns lv) (hL:Lay E l) {a:Nat} (ha:Ybr a) (need:Nat) :
  Calls Tryz.prog 111 #[.pointer (some ⟨P,0,none⟩),.int .u64 need,.int .u64 a] w fun e w'=>e=.returned (fitT (l.map KB.b) a (Yc0 (fitB need a) (l.map KB.b) (l.map KB.b).length))∧w.grownBy w' none:=by
 obtain ⟨g,cap,f,M,hst,hk,hPg,hFg,hFM,hmp⟩:=h.ex
 have hb:bsF f l.length=l.map KB.b:=by rw [← klist_b,hk]
 have hf:=fit_any (need:=need) hst (by have:=hL.few;omega) (fun j hj=>by
  have h1:=hL.mem (Ydp hk hj)
  have h2:=hL.top
  exact ⟨h1.1,by omega,by omega⟩) ha
 rw [hb] at hf
 rw [List.length_map]
 exact hf
set_option maxHeartbeats 4000000 in
theorem mtake_none (h:Md w F P all l ns lv) (hL:Lay E l) (o:Int) {m a:Nat} (ha:Ybr a) (hm:m≤18446744073709551560) (hf:fitM (l.map KB.b) m a=none) :
  Calls Tryz.prog 86 #[.pointer (some ⟨P,0,none⟩),.int .i64 o,.int .u64 m,.int .u64 a] w fun e w'=>e=.returned (.agg #[.int .i64 3,.int .u64 0,.int .u64 0])∧w.grownBy w' none:=by
 have b:=Yab w (.cells #[.int .i64 0,.int .u64 0,.int .u64 0] 46)
 have ga:=World.grownBy_alloc w (.cells #[.int .i64 0,.int .u64 0,.int .u64 0] 46) none
 obtain ⟨W0,hW0⟩:∃ W0,w.alloc (.cells #[.int .i64 0,.int .u64 0,.int .u64 0] 46)=W0:=⟨_,rfl⟩
 rw [hW0] at b ga
 obtain ⟨⟨kk,hkk,hak⟩,ha16,ha4⟩:=Yeh.1 ha
 have hon:=fun V=>ones_any a (by omega) V
 have h1o:Yeu (a:Int)=1:=by rw [hak];exact onesp kk hkk
 rw [h1o] at hon
 have h1':¬ (a:Int)<16:=by omega
 have h2':¬ (4096:Int)<(a:Int):=by omega
 have hfl:=fun V=>Ya6 3 V
 have hnd:=fun V=>need_fits m (by omega) V
 have hft:=fit_md (h.later ga) hL ha (Yat m)
 unfold fitM at hf
 rw [hf] at hft
 have hfe:fitT (l.map KB.b) a none=.tuple #[.int .i64 0,.int .u64 0,.bool false]:=rfl
 rw [hfe] at hft
 obtain ⟨nd,hndd⟩:∃ nd,Yat m=nd:=⟨_,rfl⟩
 rw [hndd] at hnd hft
 have HBX:=Lib.hid b
 have HGX:=Lib.hid ga
 clear b ga hm hf ha hak h1o hL h hndd
 go_enter Tryz.func86,Tryz.ntmps86
 go_wp2_with (first
  | (go_at_call 110;((with_reducible refine (hon _).mono ?_);rintro e w1 ⟨rfl,rfl⟩))
  | (go_at_call 89;((with_reducible refine (hnd _).mono ?_);rintro e w1 ⟨rfl,rfl⟩))
  | (go_at_call 111;((with_reducible refine hft.mono ?_);rintro e w1 ⟨rfl,hg1⟩;replace HBX:=Lib.hid ((hg1.block _ (lt_of_block HBX.out) (by simp)).trans HBX.out);replace HGX:=Lib.hid (Yaa HGX.out hg1)))
  | (go_at_call 33;((with_reducible refine (hfl _).mono ?_);rintro e w2 ⟨rfl,hg2⟩;have hb2:=(hg2.block _ (lt_of_block HBX.out) (by simp)).trans HBX.out;obtain ⟨y0,y1,y2⟩:=Yaf hb2;obtain ⟨z0,z1,z2⟩:=Yak hb2)))
 have q:=Yaz hb2 (x':=.int .i64 3) (y':=.int .u64 0) (z':=.int .u64 0)
 obtain ⟨k0,k1,k2⟩:=Yaf q
 refine bodyPost_ret (v:=.agg #[.int .i64 3,.int .u64 0,.int .u64 0]) (by simp [results,Tryz.results86,go_sem,k0,k1,k2]) rfl ?_
 exact ⟨rfl,Yap (Yaa (Yam (Yaa HGX.out hg2) (some w.heap.size)) (Yaa (Yac _ _ _ _) (Yaa (Yac _ _ _ _) (Yac _ _ _ _)))) (Nat.le_refl _)⟩
end
end
end Go.Proofs.YtfhiljglfhekdaaGreat
