/-
  Texts of one layer, one behind the other: memory, contracts of the functions, and what follows of them.
  Conditions: as each theorem says.
-/
import Derived.Test.YtfhiljglfhekdaaGreatLKcc
import Derived.Test.YtfhiljglfhekdaaGreatLRec
import Derived.Test.YtfhiljglfhekdaaGreatLCab
import Derived.Test.YtfhiljglfhekdaaGreatLMob
import Derived.Test.YtfhiljglfhekdaaGreatModH
import Derived.Test.YtfhiljglfhekdaaGreatLMpb
import Derived.Test.YtfhiljglfhekdaaGreatResB
set_option linter.unusedVariables false
set_option linter.unusedSimpArgs false
set_option maxRecDepth 100000
namespace Go.Proofs.YtfhiljglfhekdaaGreat
open Go.RowKit
section
structure BkOk (b:Blk):Prop where
 sz:48≤b.s
 us:b.u=true→b.n+40≤b.s∧0≤b.o∧b.o≤8
 fr:b.u=false→b=Ya4 b.off b.s
theorem freeB_ok {off s:Nat} (h:48≤s):BkOk (Ya4 off s):=⟨h,fun hu=>(by cases hu),fun _=>rfl⟩
def usL (bs:List Blk):List Blk:=bs.filter fun b=>b.u
def LsU (U:List Blk) (L:Nat→List Nat):Prop:=∀ c,c<8→(L c).Nodup∧∀ x,x∈L c↔∃ b∈U,b.off=x∧b.o=(c:Int)+1
structure HQ (E:Nat) (bs:List Blk) (L:Nat→List Nat):Prop where
 ch:Ybk E 3776 bs
 top:E≤4800
 is:∀ b∈bs,BkOk b
 ls:LsU (usL bs) L
structure HS (E:Nat) (bs:List Blk) (L:Nat→List Nat):Prop where
 q:HQ E bs L
 mg:Mg bs
section
variable {E o p i n:Nat} {bs cs A C U:List Blk} {b b':Blk} {L:Nat→List Nat}
theorem Yb3:b∈usL bs↔b∈bs∧b.u=true:=by unfold usL;rw [List.mem_filter]
theorem usL_app (A C:List Blk):usL (A++C)=usL A++usL C:=List.filter_append _ _
theorem usL_yes (C:List Blk) (h:b.u=true):usL (b::C)=b::usL C:=by unfold usL;rw [List.filter_cons,if_pos h]
theorem usL_no (C:List Blk) (h:b.u=false):usL (b::C)=usL C:=by unfold usL;rw [List.filter_cons,if_neg (by rw [h];decide)]
theorem Yb2 (h:b.u=true):usL (A++b::C)=usL A++b::usL C:=by rw [usL_app,usL_yes _ h]
theorem Yd8 (h:b.u=false):usL (A++b::C)=usL A++usL C:=by rw [usL_app,usL_no _ h]
theorem join_ind {Q:List Blk→Prop} (hs:∀ out b r,Q (out++b::r)→Q (Ycf out b++r)) (h:Q bs):Q (Ybs bs):=by
 have key:∀ (r out:List Blk),Q (out++r)→Q (r.foldl Ycf out):=by
  intro r
  induction r with
  | nil=>intro out h;rw [List.append_nil] at h;exact h
  | cons b r ih=>intro out h;exact ih _ (hs _ _ _ h)
 exact key bs [] h
theorem Yd5 (out:List Blk) (b:Blk):Ycf out b=out++[b]∨∃ D p,out=D++[p]∧p.u=false∧b.u=false∧Ycf out b=D++[⟨p.off,p.s+b.s,p.u,p.o,p.n⟩]:=by
 unfold Ycf
 split
 ·rename_i p hp
  obtain ⟨D,rfl⟩:=List.getLast?_eq_some_iff.1 hp
  split
  ·rename_i hu
   exact .inr ⟨D,p,rfl,hu.1,hu.2,by rw [List.dropLast_concat]⟩
  ·exact .inl rfl
 ·exact .inl rfl
theorem Ybk.joined (h:Ybk E o bs):Ybk E o (Ybs bs):=by
 refine join_ind (Q:=fun l=>Ybk E o l) ?_ h
 intro out b r h
 rcases Yd5 out b with e|⟨D,p,rfl,hp,hb,e⟩
 ·rw [e,List.append_assoc];exact h
 ·rw [e,List.append_assoc]
  rw [List.append_assoc] at h
  obtain ⟨m,h1,h2⟩:=Ybk.app.1 h
  refine Ybk.app.2 ⟨m,h1,?_⟩
  obtain ⟨k1,k2,k3,k4,k5,k6,k7⟩:=h2
  refine ⟨k1,?_,?_,?_⟩
  ·show 0<p.s+b.s;omega
  ·show (p.s+b.s) % 16=0;omega
  ·show Ybk E (m+(p.s+b.s)) r
   rw [← Nat.add_assoc];exact k7
theorem oks_joined (h:∀ b∈bs,BkOk b):∀ b∈Ybs bs,BkOk b:=by
 refine join_ind (Q:=fun l=>∀ b∈l,BkOk b) ?_ h
 intro out b r h
 rcases Yd5 out b with e|⟨D,p,rfl,hp,hb,e⟩
 ·rw [e,List.append_assoc];exact h
 ·rw [e]
  intro x hx
  rcases List.mem_append.1 hx with hx|hx
  ·rcases List.mem_append.1 hx with hx|hx
   ·exact h x (by simp [hx])
   ·rw [List.mem_singleton.1 hx]
    have h1:=h p (by simp)
    have h2:=h b (by simp)
    have h3:=h1.sz
    refine ⟨by show 48≤p.s+b.s;omega,fun hu=>?_,fun _=>?_⟩
    ·rw [show p.u=true from hu] at hp;cases hp
    ·have h4:=h1.fr hp
     have e1:p.u=false:=hp
     have e2:p.o=0:=by rw [h4];rfl
     have e3:p.n=0:=by rw [h4];rfl
     show (⟨p.off,p.s+b.s,p.u,p.o,p.n⟩:Blk)=⟨p.off,p.s+b.s,false,0,0⟩
     rw [e1,e2,e3]
  ·exact h x (by simp [hx])
theorem Ydf (bs:List Blk):usL (Ybs bs)=usL bs:=by
 refine join_ind (Q:=fun l=>usL l=usL bs) ?_ rfl
 intro out b r h
 rcases Yd5 out b with e|⟨D,p,rfl,hp,hb,e⟩
 ·rw [e,List.append_assoc];exact h
 ·rw [e,← h,List.append_assoc,List.append_assoc,usL_app,usL_app D]
  show usL D++usL ((⟨p.off,p.s+b.s,p.u,p.o,p.n⟩:Blk)::r)=usL D++usL (p::b::r)
  rw [usL_no _ hp,usL_no _ hb,usL_no _ (by exact hp)]
theorem mg_joinS (h:Mg cs):Mg (Ycf cs b):=by
 unfold Ycf
 split
 ·rename_i p hp
  obtain ⟨D,rfl⟩:=List.getLast?_eq_some_iff.1 hp
  split
  ·rename_i hu
   rw [List.dropLast_concat]
   obtain ⟨h1,h2,h3⟩:=Yc7.1 h
   exact Yc7.2 ⟨h1,trivial,fun x c hx hc=>by
    have:=h3 x p hx rfl
    rw [← Option.some.inj hc]
    exact this⟩
  ·rename_i hu
   refine Yc7.2 ⟨h,trivial,fun x c hx hc=>?_⟩
   rw [hp] at hx
   rw [← Option.some.inj hx,← Option.some.inj hc]
   cases h1:p.u with
   | true=>exact .inl rfl
   | false=>cases h2:b.u with
    | true=>exact .inr rfl
    | false=>exact absurd ⟨h1,h2⟩ hu
 ·rename_i hn
  rw [List.getLast?_eq_none_iff.1 hn];trivial
theorem mg_joined (bs:List Blk):Mg (Ybs bs):=by
 have key:∀ (r out:List Blk),Mg out→Mg (r.foldl Ycf out):=by
  intro r
  induction r with
  | nil=>intro out h;exact h
  | cons b r ih=>intro out h;exact ih _ (mg_joinS h)
 exact key bs [] trivial
theorem HQ.join (h:HQ E bs L):HS E (Ybs bs) L:=⟨⟨h.ch.joined,h.top,oks_joined h.is,by rw [Ydf];exact h.ls⟩,mg_joined bs⟩
theorem join_left (A C:List Blk):Ybs (Ybs A++C)=Ybs (A++C):=by
 unfold Ybs
 rw [List.foldl_append,List.foldl_append]
 rw [show (List.foldl Ycf [] (List.foldl Ycf [] A))=List.foldl Ycf [] A from Ydq (mg_joined A)]
theorem joinS_twice {J:List Blk} {p y:Blk} (hp:p.u=false) (hy:y.u=false):Ycf (Ycf J p) y=Ycf J ⟨p.off,p.s+y.s,p.u,p.o,p.n⟩:=by
 rcases Yd5 J p with e|⟨D,q,rfl,hq,hp',e⟩
 ·rw [e,Yex hp hy]
  rcases Yd5 J (⟨p.off,p.s+y.s,p.u,p.o,p.n⟩:Blk) with e'|⟨D,q,rfl,hq,hp',e'⟩
  ·rw [e']
  ·rw [Yex hq hp] at e
   have:(D++[(⟨q.off,q.s+p.s,q.u,q.o,q.n⟩:Blk)]).length=(D++[q]++[p]).length:=by rw [e]
   simp at this
 ·rw [e,Yex (by exact hq) hy,Yex hq (by exact hp)]
  show _=D++[(⟨q.off,q.s+(p.s+y.s),q.u,q.o,q.n⟩:Blk)]
  rw [← Nat.add_assoc]
theorem Yew (A:List Blk):∀ C,Ybs (A++C)=C.foldl Ycf (Ybs A):=fun C=>by unfold Ybs;rw [List.foldl_append]
theorem foldl_snoc (X C:List Blk) (y:Blk):(C++[y]).foldl Ycf X=Ycf (C.foldl Ycf X) y:=by rw [List.foldl_append];rfl
theorem join_right' (A:List Blk):∀ (n:Nat) (C:List Blk),C.length=n→Ybs (A++Ybs C)=Ybs (A++C):=by
 intro n
 induction n with
 | zero=>intro C hC;rw [List.length_eq_zero_iff.1 hC];rfl
 | succ n ih =>
  intro C hC
  obtain ⟨D,y,rfl⟩:∃ D y,C=D++[y]:=by
   rcases List.eq_nil_or_concat C with h|⟨D,y,h⟩
   ·rw [h] at hC;cases hC
   ·exact ⟨D,y,by simpa using h⟩
  have hD:=ih D (by simpa using hC)
  have e1:Ybs (D++[y])=Ycf (Ybs D) y:=foldl_snoc [] D y
  rw [e1,Yew A (D++[y]),foldl_snoc,← Yew,← hD]
  rcases Yd5 (Ybs D) y with e|⟨X,p,eX,hp,hy,e⟩
  ·rw [e,← List.append_assoc,Yew (A++Ybs D)];rfl
  ·rw [e,eX,← List.append_assoc,← List.append_assoc,Yew (A++X) [p],Yew (A++X)]
   show Ycf (Ybs (A++X)) _=Ycf (Ycf (Ybs (A++X)) p) y
   rw [joinS_twice hp hy]
theorem join_right (A C:List Blk):Ybs (A++Ybs C)=Ybs (A++C):=join_right' A _ C rfl
theorem join_part (h:b.u=true):Ybs (A++b::C)=Ybs A++b::Ybs C:=by
 rw [show A++b::C=(A++[b])++C by simp,← join_right,← join_left]
 have e1:Ybs (A++[b])=Ybs A++[b]:=by
  rw [Yew]
  show Ycf (Ybs A) b=_
  exact joinS_apart fun p hp=>.inr h
 rw [e1]
 have:Mg (Ybs A++[b]++Ybs C):=Yc7.2 ⟨by rw [← e1];exact mg_joined _,mg_joined _,fun x c hx hc=>by
  rw [List.getLast?_concat] at hx
  rw [← Option.some.inj hx]
  exact .inl h⟩
 rw [Ydq this];simp
theorem join_mid (X:List Blk):Ybs (Ybs A++X++Ybs C)=Ybs (A++X++C):=by
 rw [join_right,List.append_assoc,join_left,List.append_assoc]
theorem up_amid (h:(A++b::C).Pairwise fun x y=>x.off<y.off):(∀ x∈A,x.off<b.off)∧∀ x∈C,b.off<x.off:=by
 obtain ⟨h1,h2,h3⟩:=List.pairwise_append.1 h
 exact ⟨fun x hx=>h3 x hx b (by simp),(List.pairwise_cons.1 h2).1⟩
theorem chain_amid (h:Ybk E 3776 (A++b::C)):(∀ x∈A,x.off+x.s≤b.off)∧(∀ x∈C,b.off+b.s≤x.off)∧Ybk b.off 3776 A∧Ybk E (b.off+b.s) C∧b.off % 16=0∧3776≤b.off∧b.off+b.s≤E∧0<b.s∧b.s % 16=0:=by
 obtain ⟨k1,k2,k3,k4,k5⟩:=h.mem (by decide) b (by simp)
 obtain ⟨m,h1,h2⟩:=Ybk.app.1 h
 obtain ⟨e1,e2,e3,e4⟩:=h2
 subst e1
 exact ⟨fun x hx=>(h1.mem (by decide) x hx).2.2.1,fun x hx=>(e4.mem (by omega) x hx).2.1,h1,e4,k1,k2,k3,k4,k5⟩
theorem Ybk.swap (h:Ybk E o (A++b::C)) (h1:b'.off=b.off) (h2:b'.s=b.s):Ybk E o (A++b'::C):=by
 obtain ⟨m,k1,k2⟩:=Ybk.app.1 h
 refine Ybk.app.2 ⟨m,k1,?_⟩
 obtain ⟨e1,e2,e3,e4⟩:=k2
 exact ⟨h1.trans e1,by rw [h2];exact e2,by rw [h2];exact e3,by rw [h2];exact e4⟩
theorem HQ.mem (h:HQ E bs L) (hb:b∈bs):b.off % 16=0∧3776≤b.off∧b.off+b.s≤E∧0<b.s∧b.s % 16=0:=h.ch.mem (by decide) b hb
theorem HQ.one (h:HQ E bs L) (hb:b∈bs) (hb':b'∈bs) (e:b.off=b'.off):b=b':=by
 obtain ⟨A,C,rfl⟩:=List.append_of_mem hb
 obtain ⟨h1,h2⟩:=up_amid h.ch.up
 rcases List.mem_append.1 hb' with k|k
 ·have:=h1 _ k;omega
 ·rcases List.mem_cons.1 k with k|k
  ·exact k.symm
  ·have:=h2 _ k;omega
theorem Ycq {α:Type} [Inhabited α] {A C:List α} {x:α} (h:A.length=i):(A++x::C).getD i default=x:=by
 rw [List.getD_eq_getElem?_getD,List.getElem?_append_right (by omega),h,Nat.sub_self];rfl
theorem fst_mid {p:Nat} (hq:pF p b=true) (hA:∀ x∈A,pF p x=false):fstN (pF p) (A++b::C)=some A.length:=by
 refine fstN_is (by simp) (by rw [Ycq rfl];exact hq) fun j hj=>?_
 rw [List.getD_eq_getElem?_getD,List.getElem?_append_left hj,List.getElem?_eq_getElem hj]
 exact hA _ (List.getElem_mem hj)
theorem need_48 (n:Nat):Yat n % 16=0∧48≤Yat n∧n+40≤Yat n:=by
 unfold Yat
 split <;> omega
theorem HQ.find (h:HQ E (A++b::C) L) (hu:b.u=true):fstN (pF (b.off+32)) (A++b::C)=some A.length:=by
 obtain ⟨h1,h2⟩:=up_amid h.ch.up
 have h3:=h.mem (b:=b) (by simp)
 have h4:=h.top
 refine fst_mid ?_ fun x hx=>?_
 ·unfold pF
  rw [hu,Bool.true_and]
  exact decide_eq_true (Nat.mod_eq_of_lt (by omega))
 ·have h5:=h1 x hx
  unfold pF
  rw [decide_eq_false (by rw [Nat.mod_eq_of_lt (by omega)];omega),Bool.and_false]
theorem HQ.found (h:HQ E bs L) (hf:fstN (pF p) bs=some i):∃ A b C,bs=A++b::C∧A.length=i∧b.u=true∧b.off+32=p∧bs.getD i default=b:=by
 obtain ⟨h1,h2,h3⟩:=pF_some hf
 refine ⟨bs.take i,bs.getD i default,bs.drop (i+1),bs_amid h1,by simp;omega,h2,?_,rfl⟩
 have hm:bs.getD i default∈bs:=by
  rw [List.getD_eq_getElem?_getD,List.getElem?_eq_getElem h1];exact List.getElem_mem h1
 have h4:=h.mem hm
 have h5:=h.top
 rw [Nat.mod_eq_of_lt (by omega)] at h3
 exact h3
theorem LsU.del (h:LsU (A++b::C) L) (hn:∀ x∈A++C,x.off≠b.off) (ho:0≤b.o):LsU (A++C) (lstB L b):=by
 intro c hc
 obtain ⟨h1,h2⟩:=h c hc
 have key:∀ x,x∈lstB L b c↔x∈L c∧x≠b.off:=by
  intro x
  have hx:x∈L c→x=b.off→b.o=(c:Int)+1:=by
   intro k e
   obtain ⟨b',hb',e1,e2⟩:=(h2 x).1 k
   rcases List.mem_append.1 hb' with q|q
   ·exact absurd (e1.trans e) (hn b' (by simp [q]))
   ·rcases List.mem_cons.1 q with q|q
    ·rw [← q];exact e2
    ·exact absurd (e1.trans e) (hn b' (by simp [q]))
  unfold lstB
  split
  ·rename_i h0
   constructor
   ·intro k
    refine ⟨k,fun e=>?_⟩
    have:=hx k e
    omega
   ·exact fun k=>k.1
  ·rename_i h0
   by_cases hcc:c=b.o.toNat - 1
   ·subst hcc
    rw [Yeq,List.mem_filter]
    simp
   ·rw [Yd1 _ hcc]
    constructor
    ·intro k
     refine ⟨k,fun e=>?_⟩
     have:=hx k e
     omega
    ·exact fun k=>k.1
 refine ⟨?_,fun x=>?_⟩
 ·unfold lstB
  split
  ·exact h1
  ·by_cases hcc:c=b.o.toNat - 1
   ·subst hcc
    rw [Yeq];exact h1.sublist List.filter_sublist
   ·rw [Yd1 _ hcc];exact h1
 ·rw [key,h2]
  constructor
  ·rintro ⟨⟨b',hb',e1,e2⟩,hne⟩
   refine ⟨b',?_,e1,e2⟩
   rcases List.mem_append.1 hb' with q|q
   ·simp [q]
   ·rcases List.mem_cons.1 q with q|q
    ·rw [q] at e1;exact absurd e1.symm hne
    ·simp [q]
  ·rintro ⟨b',hb',e1,e2⟩
   refine ⟨⟨b',?_,e1,e2⟩,fun e=>hn b' hb' (e1.trans e)⟩
   rcases List.mem_append.1 hb' with q|q <;> simp [q]
theorem LsU.add (h:LsU (A++C) L) (hn:∀ x∈A++C,x.off≠b.off) {ow:Nat} (ho:b.o=(ow:Int)):LsU (A++b::C) (Ydl L ow b.off):=by
 intro c hc
 obtain ⟨h1,h2⟩:=h c hc
 have hni:b.off ∉ L c:=fun k=>by
  obtain ⟨b',hb',e1,e2⟩:=(h2 _).1 k
  exact hn b' hb' e1
 have key:Ydl L ow b.off c=if ow=c+1 then b.off::L c else L c:=by
  unfold Ydl
  by_cases h0:ow=0
  ·rw [if_pos h0,if_neg (by omega)]
  ·rw [if_neg h0]
   by_cases hcc:c=ow - 1
   ·subst hcc
    rw [Yeq,if_pos (by omega)]
   ·rw [Yd1 _ hcc,if_neg (by omega)]
 rw [key]
 have hin:∀ x:Blk,x∈A++b::C↔x=b∨x∈A++C:=fun x=>by
  simp only [List.mem_append,List.mem_cons]
  constructor
  ·rintro (h|h|h)
   ·exact .inr (.inl h)
   ·exact .inl h
   ·exact .inr (.inr h)
  ·rintro (h|h|h)
   ·exact .inr (.inl h)
   ·exact .inl h
   ·exact .inr (.inr h)
 by_cases hcc:ow=c+1
 ·rw [if_pos hcc]
  refine ⟨List.nodup_cons.2 ⟨hni,h1⟩,fun x=>?_⟩
  rw [List.mem_cons,h2]
  constructor
  ·rintro (e|⟨b',hb',e1,e2⟩)
   ·exact ⟨b,(hin b).2 (.inl rfl),e.symm,by omega⟩
   ·exact ⟨b',(hin b').2 (.inr hb'),e1,e2⟩
  ·rintro ⟨b',hb',e1,e2⟩
   rcases (hin b').1 hb' with q|q
   ·rw [q] at e1;exact .inl e1.symm
   ·exact .inr ⟨b',q,e1,e2⟩
 ·rw [if_neg hcc]
  refine ⟨h1,fun x=>?_⟩
  rw [h2]
  constructor
  ·rintro ⟨b',hb',e1,e2⟩
   exact ⟨b',(hin b').2 (.inr hb'),e1,e2⟩
  ·rintro ⟨b',hb',e1,e2⟩
   rcases (hin b').1 hb' with q|q
   ·rw [q] at e2;omega
   ·exact ⟨b',q,e1,e2⟩
theorem LsU.same (h:LsU (A++b::C) L) (e1:b'.off=b.off) (e2:b'.o=b.o):LsU (A++b'::C) L:=by
 intro c hc
 obtain ⟨h1,h2⟩:=h c hc
 refine ⟨h1,fun x=>?_⟩
 rw [h2]
 constructor
 ·rintro ⟨y,hy,k1,k2⟩
  rcases List.mem_append.1 hy with q|q
  ·exact ⟨y,by simp [q],k1,k2⟩
  ·rcases List.mem_cons.1 q with q|q
   ·rw [q] at k1 k2;exact ⟨b',by simp,e1.trans k1,e2.trans k2⟩
   ·exact ⟨y,by simp [q],k1,k2⟩
 ·rintro ⟨y,hy,k1,k2⟩
  rcases List.mem_append.1 hy with q|q
  ·exact ⟨y,by simp [q],k1,k2⟩
  ·rcases List.mem_cons.1 q with q|q
   ·rw [q] at k1 k2;exact ⟨b,by simp,e1.symm.trans k1,e2.symm.trans k2⟩
   ·exact ⟨y,by simp [q],k1,k2⟩
theorem HQ.apart (h:HQ E (A++b::C) L):∀ x∈usL A++usL C,x.off≠b.off:=by
 obtain ⟨h1,h2⟩:=up_amid h.ch.up
 intro x hx
 rcases List.mem_append.1 hx with q|q
 ·have:=h1 x (Yb3.1 q).1;omega
 ·have:=h2 x (Yb3.1 q).1;omega
theorem HQ.freed (h:HQ E (A++b::C) L) (hu:b.u=true):HQ E (A++Ya4 b.off b.s::C) (lstB L b):=by
 have h1:=h.is b (by simp)
 refine ⟨h.ch.swap rfl rfl,h.top,fun x hx=>?_,?_⟩
 ·rcases List.mem_append.1 hx with q|q
  ·exact h.is x (by simp [q])
  ·rcases List.mem_cons.1 q with q|q
   ·rw [q];exact freeB_ok h1.sz
   ·exact h.is x (by simp [q])
 ·have h2:=h.ls
  rw [Yb2 hu] at h2
  rw [Yd8 (by rfl)]
  exact h2.del h.apart (h1.us hu).2.1
theorem frB_at (hi:A.length=i) (hf:fstN (pF p) (A++b::C)=some i):frB (A++b::C) p=Ybs (A++Ya4 b.off b.s::C)∧frL (A++b::C) L p=lstB L b:=by
 have e:=Ycq (C:=C) (x:=b) hi
 unfold frB frL gO gS
 rw [hf]
 simp only
 rw [e]
 subst hi
 refine ⟨?_,rfl⟩
 rw [List.take_left,show A++b::C=(A++[b])++C by simp,show A.length+1=(A++[b]).length by simp,List.drop_left]
theorem HS.frees (h:HS E bs L) (p:Nat):HS E (frB bs p) (frL bs L p):=by
 cases hf:fstN (pF p) bs with
 | none=>unfold frB frL;rw [hf];exact h
 | some i =>
  obtain ⟨A,b,C,rfl,hi,hu,hp,hb⟩:=h.q.found hf
  obtain ⟨e1,e2⟩:=frB_at (L:=L) hi hf
  rw [e1,e2]
  exact (h.q.freed hu).join
theorem HQ.sub (h:HQ E (A++b::C) L) (hu:b.u=true) (e1:b'.off=b.off) (e2:b'.s=b.s) (hu':b'.u=true) (hn:b'.n+40≤b.s) {ow:Nat} (ho:b'.o=(ow:Int)) (h8:ow≤8):HQ E (A++b'::C) (Ydl (lstB L b) ow b.off):=by
 have h1:=h.is b (by simp)
 refine ⟨h.ch.swap e1 e2,h.top,fun x hx=>?_,?_⟩
 ·rcases List.mem_append.1 hx with q|q
  ·exact h.is x (by simp [q])
  ·rcases List.mem_cons.1 q with q|q
   ·rw [q];exact ⟨by rw [e2];exact h1.sz,fun _=>⟨by rw [e2];exact hn,by omega,by omega⟩,fun k=>(by rw [hu'] at k;cases k)⟩
   ·exact h.is x (by simp [q])
 ·have h2:=h.ls
  rw [Yb2 hu] at h2
  rw [Yb2 hu',← e1]
  exact (h2.del h.apart (h1.us hu).2.1).add (fun x hx=>by rw [e1];exact h.apart x hx) ho
theorem HQ.relen (h:HQ E (A++b::C) L) (hu:b.u=true) (hn:n+40≤b.s):HQ E (A++⟨b.off,b.s,b.u,b.o,n⟩::C) L:=by
 have h1:=h.is b (by simp)
 refine ⟨h.ch.swap rfl rfl,h.top,fun x hx=>?_,?_⟩
 ·rcases List.mem_append.1 hx with q|q
  ·exact h.is x (by simp [q])
  ·rcases List.mem_cons.1 q with q|q
   ·rw [q];exact ⟨h1.sz,fun _=>⟨hn,(h1.us hu).2⟩,fun k=>(by rw [show b.u=false from k] at hu;cases hu)⟩
   ·exact h.is x (by simp [q])
 ·have h2:=h.ls
  rw [Yb2 hu] at h2
  rw [Yb2 (by exact hu)]
  exact h2.same rfl rfl
theorem mg_sub (h:Mg (A++b::C)) (e:b'.u=b.u):Mg (A++b'::C):=by
 obtain ⟨h1,h2,h3⟩:=Yc7.1 h
 refine Yc7.2 ⟨h1,?_,fun x c hx hc=>?_⟩
 ·cases C with
  | nil=>trivial
  | cons c r=>exact ⟨by rw [e];exact h2.1,h2.2⟩
 ·rw [← Option.some.inj hc,e]
  exact h3 x b hx rfl
theorem HQ.cut (h:HQ E (A++b::C) L) (hu:b.u=true) {k:Nat} (h16:k % 16=0) (hn:b.n+40≤k) (h48:48≤k) (hr:k+48≤b.s):HQ E (A++⟨b.off,k,b.u,b.o,b.n⟩::Ya4 (b.off+k) (b.s - k)::C) L:=by
 have h1:=h.is b (by simp)
 obtain ⟨m,k1,k2⟩:=Ybk.app.1 h.ch
 obtain ⟨e1,e2,e3,e4⟩:=k2
 refine ⟨Ybk.app.2 ⟨m,k1,e1,?_,h16,?_,?_,?_,?_⟩,h.top,fun x hx=>?_,?_⟩
 ·show 0<k;omega
 ·show b.off+k=m+k;omega
 ·show 0<b.s - k;omega
 ·show (b.s - k) % 16=0;omega
 ·show Ybk E (m+k+(b.s - k)) C
  rw [show m+k+(b.s - k)=m+b.s by omega];exact e4
 ·rcases List.mem_append.1 hx with q|q
  ·exact h.is x (by simp [q])
  ·rcases List.mem_cons.1 q with q|q
   ·rw [q];exact ⟨h48,fun _=>⟨hn,(h1.us hu).2⟩,fun k=>(by rw [show b.u=false from k] at hu;cases hu)⟩
   ·rcases List.mem_cons.1 q with q|q
    ·rw [q];exact freeB_ok (by omega)
    ·exact h.is x (by simp [q])
 ·have h2:=h.ls
  rw [Yb2 hu] at h2
  rw [Yb2 (by exact hu),usL_no _ rfl]
  exact h2.same rfl rfl
end
end
section
section
variable {E o p i n m a:Nat} {bs cs A C U:List Blk} {b b':Blk} {L:Nat→List Nat}
def cutS (b:Blk) (pad need:Nat):Nat:=if b.s - pad - need<48 then b.s - pad else need
theorem mg_free (h:Mg (A++b::C)) (hu:b.u=false):Mg A∧Mg C∧(∀ x,A.getLast?=some x→x.u=true)∧∀ x,C.head?=some x→x.u=true:=by
 obtain ⟨h1,h2,h3⟩:=Yc7.1 h
 refine ⟨h1,h2.tail,fun x hx=>?_,fun x hx=>?_⟩
 ·rcases h3 x b hx rfl with q|q
  ·exact q
  ·rw [hu] at q;cases q
 ·cases C with
  | nil=>cases hx
  | cons c r =>
   rw [List.head?_cons] at hx
   rw [← Option.some.inj hx]
   rcases h2.1 with q|q
   ·rw [hu] at q;cases q
   ·exact q
theorem HS.taken (h:HS E (A++b::C) L) (hu:b.u=false) {pad need owner:Nat} (h1:pad % 16=0) (h2:pad=0∨48≤pad) (h3:pad+need≤b.s) (h4:need % 16=0) (h5:48≤need) (h6:n+40≤need) (ho:owner≤8) :
  HS E (A++cutB b pad need owner n++C) (Ydl L owner (b.off+pad))∧usL (A++cutB b pad need owner n++C)=usL A++⟨b.off+pad,cutS b pad need,true,owner,n⟩::usL C∧∀ x∈usL A++usL C,x.off≠b.off+pad:=by
 have hs:need≤cutS b pad need:=by unfold cutS;split <;> omega
 have hX:∀ x∈(if pad=0 then [] else [Ya4 b.off pad]),BkOk x:=fun x hx=>by
  by_cases hp:pad=0
  ·rw [if_pos hp] at hx;cases hx
  ·rw [if_neg hp] at hx;rw [List.mem_singleton.1 hx];exact freeB_ok (by omega)
 have hY:∀ x∈(if b.s - pad - need<48 then [] else [Ya4 (b.off+pad+need) (b.s - pad - need)]),BkOk x:=fun x hx=>by
  by_cases hp:b.s - pad - need<48
  ·rw [if_pos hp] at hx;cases hx
  ·rw [if_neg hp] at hx;rw [List.mem_singleton.1 hx];exact freeB_ok (by omega)
 have uX:usL (if pad=0 then [] else [Ya4 b.off pad])=[]:=by by_cases hp:pad=0 <;> simp [hp,usL,Ya4]
 have uY:usL (if b.s - pad - need<48 then [] else [Ya4 (b.off+pad+need) (b.s - pad - need)])=[]:=by by_cases hp:b.s - pad - need<48 <;> simp [hp,usL,Ya4]
 obtain ⟨a1,a2,a3,a4,a5,a6,a7,a8,a9⟩:=chain_amid h.q.ch
 have hap:∀ x∈usL A++usL C,x.off≠b.off+pad:=fun x hx=>by
  rcases List.mem_append.1 hx with q|q
  ·have k1:=a1 x (Yb3.1 q).1
   have k2:=(h.q.is x (by simp [(Yb3.1 q).1])).sz
   omega
  ·have k1:=a2 x (Yb3.1 q).1;omega
 have hus:usL (A++cutB b pad need owner n++C)=usL A++⟨b.off+pad,cutS b pad need,true,owner,n⟩::usL C:=by
  unfold cutB
  rw [usL_app,usL_app,usL_app,uX,usL_yes _ rfl,uY]
  simp [cutS]
 refine ⟨⟨⟨?_,h.q.top,fun x hx=>?_,?_⟩,?_⟩,hus,hap⟩
 ·rw [List.append_assoc]
  refine Ybk.app.2 ⟨b.off,a3,?_⟩
  unfold cutB
  rw [List.append_assoc]
  have hmid:Ybk E (b.off+pad) ((⟨b.off+pad,cutS b pad need,true,owner,n⟩::if b.s - pad - need<48 then [] else [Ya4 (b.off+pad+need) (b.s - pad - need)])++C):=by
   unfold cutS
   by_cases hr:b.s - pad - need<48
   ·rw [if_pos hr,if_pos hr]
    refine ⟨rfl,by show 0<b.s - pad;omega,by show (b.s - pad) % 16=0;omega,?_⟩
    show Ybk E (b.off+pad+(b.s - pad)) ([]++C)
    rw [show b.off+pad+(b.s - pad)=b.off+b.s by omega];exact a4
   ·rw [if_neg hr,if_neg hr]
    refine ⟨rfl,by show 0<need;omega,h4,rfl,by show 0<b.s - pad - need;omega,by show (b.s - pad - need) % 16=0;omega,?_⟩
    show Ybk E (b.off+pad+need+(b.s - pad - need)) ([]++C)
    rw [show b.off+pad+need+(b.s - pad - need)=b.off+b.s by omega];exact a4
  by_cases hp:pad=0
  ·rw [if_pos hp]
   rw [show b.off=b.off+pad by omega]
   rw [← show b.off=b.off+pad by omega]
   have:∀ x,x=b.off→Ybk E x ((⟨b.off+pad,cutS b pad need,true,owner,n⟩::if b.s - pad - need<48 then [] else [Ya4 (b.off+pad+need) (b.s - pad - need)])++C):=fun x hx=>by rw [hx,show b.off=b.off+pad by omega];rw [← show b.off=b.off+pad by omega];simpa [hp] using hmid
   exact this _ rfl
  ·rw [if_neg hp]
   exact ⟨rfl,by show 0<pad;omega,h1,hmid⟩
 ·rcases List.mem_append.1 hx with q|q
  ·rcases List.mem_append.1 q with q|q
   ·exact h.q.is x (by simp [q])
   ·unfold cutB at q
    rcases List.mem_append.1 q with q|q
    ·exact hX x q
    ·rcases List.mem_cons.1 q with q|q
     ·rw [q];exact ⟨Nat.le_trans h5 hs,fun _=>⟨Nat.le_trans h6 hs,by show (0:Int)≤(owner:Int);omega,by show (owner:Int)≤8;omega⟩,fun k=>(by cases k)⟩
     ·exact hY x q
  ·exact h.q.is x (by simp [q])
 ·rw [hus]
  have h2:=h.q.ls
  rw [Yd8 hu] at h2
  exact h2.add (b:=⟨b.off+pad,cutS b pad need,true,owner,n⟩) hap rfl
 ·obtain ⟨m1,m2,m3,m4⟩:=mg_free h.mg hu
  rw [List.append_assoc]
  have hC:∀ f:Blk,Mg (f::C):=fun f=>by
   cases C with
   | nil=>trivial
   | cons c r=>exact ⟨.inr (m4 c rfl),m2⟩
  have hmid:Mg ((⟨b.off+pad,cutS b pad need,true,owner,n⟩::if b.s - pad - need<48 then [] else [Ya4 (b.off+pad+need) (b.s - pad - need)])++C):=by
   by_cases hr:b.s - pad - need<48
   ·rw [if_pos hr]
    cases C with
    | nil=>trivial
    | cons c r=>exact ⟨.inl rfl,m2⟩
   ·rw [if_neg hr]
    exact ⟨.inl rfl,hC _⟩
  refine Yc7.2 ⟨m1,?_,fun x c hx hc=>.inl (m3 x hx)⟩
  unfold cutB
  rw [List.append_assoc]
  by_cases hp:pad=0
  ·rw [if_pos hp];exact hmid
  ·rw [if_neg hp];exact ⟨.inr rfl,hmid⟩
theorem take_at (h:HS E bs L) (hf:Yax bs m a=0):∃ A b C,bs=A++b::C∧fitM bs m a=some A.length∧b.u=false∧bs.getD A.length default=b∧padN b.off a % 16=0∧(padN b.off a=0∨48≤padN b.off a)∧padN b.off a+Yat m≤b.s∧m≤4800 ∧
  (∀ ow,tkB bs ow m a=A++cutB b (padN b.off a) (Yat m) ow m++C)∧(∀ ow,tkL bs L ow m a=Ydl L ow (b.off+padN b.off a))∧tkP bs m a=b.off+padN b.off a+32∧mtP bs m a=b.off+padN b.off a+32:=by
 obtain ⟨h1,h2,i,h3⟩:=fit_zero hf
 obtain ⟨k1,k2,k3,k4⟩:=fitM_is h3
 have hb:=bs_amid k1
 have hlen:(bs.take i).length=i:=by simp;omega
 have hm:bs.getD i default∈bs:=by
  rw [List.getD_eq_getElem?_getD,List.getElem?_eq_getElem k1];exact List.getElem_mem k1
 have h4:=h.q.mem hm
 have h5:=h.q.top
 obtain ⟨p1,p2⟩:=padN_is h1 h4.1
 have p3:=padN_al h1 h4.1
 have p4:=need_48 m
 refine ⟨bs.take i,bs.getD i default,bs.drop (i+1),hb,by rw [hlen];exact h3,k2,by rw [hlen],p3.1,p2,k4,by omega,fun ow=>?_,fun ow=>?_,?_,?_⟩
 ·unfold tkB gO;rw [h3];rfl
 ·unfold tkL gO;rw [h3]
 ·unfold tkP gO;rw [h3]
 ·unfold mtP tkP gO;rw [if_pos hf,h3]
theorem HS.take (h:HS E bs L) (hf:Yax bs m a=0) {ow:Nat} (ho:ow≤8):HS E (tkB bs ow m a) (tkL bs L ow m a)∧∃ s,mtP bs m a=tkP bs m a∧3808≤tkP bs m a∧tkP bs m a<4800∧∃ U V,usL bs=U++V∧usL (tkB bs ow m a)=U++⟨tkP bs m a - 32,s,true,ow,m⟩::V∧∀ x∈U++V,x.off≠tkP bs m a - 32:=by
 obtain ⟨A,b,C,e,hfi,hu,hb,p1,p2,p3,hm,e1,e2,e3,e4⟩:=take_at h hf
 have p4:=need_48 m
 have h5:=h.q.top
 rw [e] at h
 have h4:=h.q.mem (b:=b) (by simp)
 obtain ⟨k1,k2,k3⟩:=h.taken (n:=m) (owner:=ow) hu p1 p2 p3 p4.1 p4.2.1 p4.2.2 ho
 rw [e1,e2,e3,e4]
 refine ⟨k1,cutS b (padN b.off a) (Yat m),rfl,by omega,by omega,usL A,usL C,?_,?_,?_⟩
 ·rw [e];exact Yd8 hu
 ·rw [k2,Nat.add_sub_cancel]
 ·rw [Nat.add_sub_cancel];exact k3
theorem HS.few (h:HS E bs L):bs.length≤64:=by
 have h1:=h.q.ch.le
 have h2:=h.q.top
 omega
theorem us_few (bs:List Blk):(usL bs).length≤bs.length:=List.length_filter_le _ _
theorem nodup_few:∀ {xs ys:List Nat},xs.Nodup→(∀ x∈xs,x∈ys)→xs.length≤ys.length
 | [],ys,_,_=>Nat.zero_le _
 | x::r,ys,hn,h=>by
  obtain ⟨h1,h2⟩:=List.nodup_cons.1 hn
  have hx:=h x (by simp)
  have:=nodup_few (ys:=ys.erase x) h2 fun y hy=>(List.mem_erase_of_ne (fun e=>h1 (by rw [← e];exact hy))).2 (h y (by simp [hy]))
  rw [List.length_erase_of_mem hx] at this
  have:0<ys.length:=List.length_pos_of_mem hx
  rw [List.length_cons]
  omega
theorem HS.lists (h:HS E bs L) {c:Nat} (hc:c<8):(L c).length≤64:=by
 obtain ⟨h1,h2⟩:=h.q.ls c hc
 have h3:=nodup_few (ys:=(usL bs).map Blk.off) h1 fun x hx=>by
  obtain ⟨b,hb,e,_⟩:=(h2 x).1 hx
  exact List.mem_map.2 ⟨b,hb,e⟩
 rw [List.length_map] at h3
 have h4:=us_few bs
 have h5:=h.few
 omega
theorem HS.fine (h:HS E bs L):Fine 64 E bs L:=by
 refine ⟨h.few,h.q.top,fun b hb=>?_,fun c hc=>h.lists hc⟩
 have h1:=h.q.mem hb
 have h2:=h.q.is b hb
 have h3:=h2.sz
 have h4:=h.q.top
 refine ⟨⟨h1.2.2.2.2,h3,by omega,?_⟩,h1.1,h1.2.2.1,fun hu=>(h2.us hu).1⟩
 cases hu:b.u with
 | true=>obtain ⟨q1,q2,q3⟩:=h2.us hu;exact ⟨q2,q3,.inl rfl⟩
 | false =>
  have:b.o=0:=by rw [h2.fr hu];rfl
  rw [this]
  exact ⟨by decide,by decide,.inr rfl⟩
theorem lenB_at (hi:A.length=i) (b:Blk) (C:List Blk) (n:Nat):lenB (A++b::C) i n=A++⟨b.off,b.s,b.u,b.o,n⟩::C:=by
 have e:=Ycq (C:=C) (x:=b) hi
 unfold lenB gO gS gU gW
 rw [e]
 subst hi
 rw [List.take_left,show A++b::C=(A++[b])++C by simp,show A.length+1=(A++[b]).length by simp,List.drop_left]
theorem HS.relen (h:HS E (A++b::C) L) (hu:b.u=true) (hn:n+40≤b.s):HS E (A++⟨b.off,b.s,b.u,b.o,n⟩::C) L:=⟨h.q.relen hu hn,mg_sub h.mg rfl⟩
theorem HS.cuts (h:HS E (A++b::C) L) (hu:b.u=true) (hn:Yat b.n≤b.s):HS E (ctB (A++b::C) (b.off+32) (Yat b.n)) L∧∃ s,usL (ctB (A++b::C) (b.off+32) (Yat b.n))=usL A++⟨b.off,s,b.u,b.o,b.n⟩::usL C:=by
 have hf:=h.q.find hu
 have e:=Ycq (C:=C) (x:=b) (rfl:A.length=A.length)
 have p4:=need_48 b.n
 unfold ctB gO gS gU gW gN
 rw [hf]
 simp only
 rw [e]
 split
 ·rename_i hc
  rw [List.take_left,show A++b::C=(A++[b])++C by simp,show A.length+1=(A++[b]).length by simp,List.drop_left]
  refine ⟨(h.q.cut hu p4.1 p4.2.2 p4.2.1 hc.2).join,Yat b.n,?_⟩
  rw [Ydf,Yb2 (by exact hu),usL_no _ rfl]
 ·exact ⟨h,b.s,Yb2 hu⟩
theorem rzB_in (h:HS E (A++b::C) L) (hu:b.u=true) (h18:n≤18446744073709551560) (hle:Yat n≤b.s):rzB (A++b::C) (b.off+32) n=ctB (A++⟨b.off,b.s,b.u,b.o,n⟩::C) (b.off+32) (Yat n)∧rzL (A++b::C) L (b.off+32) n=L∧rzP (A++b::C) (b.off+32) n=b.off+32∧rzE (A++b::C) (b.off+32) n=0:=by
 have hf:=h.q.find hu
 have e:=Ycq (C:=C) (x:=b) (rfl:A.length=A.length)
 unfold rzB rzL rzP rzE gS
 rw [hf]
 simp only
 rw [e,if_neg (by omega),if_pos hle,if_neg (by omega),if_pos hle,if_neg (by omega),if_pos hle,if_neg (by omega),if_pos hle,lenB_at rfl]
 exact ⟨rfl,rfl,rfl,rfl⟩
theorem rzB_out (h:HS E (A++b::C) L) (hu:b.u=true) (h18:n≤18446744073709551560) (hgt:b.s<Yat n):rzB (A++b::C) (b.off+32) n=(if Yax (A++b::C) n 16=0 then frB (tkB (A++b::C) b.o.toNat n 16) (b.off+32) else A++b::C) ∧
  rzL (A++b::C) L (b.off+32) n=(if Yax (A++b::C) n 16=0 then frL (tkB (A++b::C) b.o.toNat n 16) (tkL (A++b::C) L b.o.toNat n 16) (b.off+32) else L)∧rzP (A++b::C) (b.off+32) n=tkP (A++b::C) n 16∧rzE (A++b::C) (b.off+32) n=Yax (A++b::C) n 16:=by
 have hf:=h.q.find hu
 have e:=Ycq (C:=C) (x:=b) (rfl:A.length=A.length)
 have ha:Ybr 16:=by decide
 have q1:¬ 18446744073709551560<n:=by omega
 have q2:¬ Yat n≤b.s:=by omega
 unfold rzB rzL rzP rzE gS gW
 rw [hf]
 simp only
 rw [e]
 unfold Yax tkE
 cases hfi:fitM (A++b::C) n 16 with
 | none=>simp only [q1,q2,ha,if_false,if_true,not_true,not_false_iff];simp
 | some i=>simp only [q1,q2,ha,if_false,if_true,not_true,not_false_iff];simp
end
end
end Go.Proofs.YtfhiljglfhekdaaGreat
