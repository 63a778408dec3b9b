/-
  Texts of one layer, one behind the other: memory, contracts of the functions, and what follows of them.
  Conditions: as each theorem says.
-/
import Derived.Test.YtfhiljglfhekdaaGreatRows
import Derived.Deep.SlicePairs
import Derived.Deep.Slices
import Derived.ProofKit
import Derived.OpenShut
import Derived.Carry
import Derived.ChangeOld
import Derived.SizedLaws
import Derived.Test.YtfhiljglfhekdaaGreatLKfc
import Derived.Test.YtfhiljglfhekdaaGreatLKfa
import Derived.SliceStrings
import Derived.Lib.SmallJoins
import Derived.Test.YtfhiljglfhekdaaGreatLHsb
import Derived.Test.YtfhiljglfhekdaaGreatLHsc
import Derived.Test.YtfhiljglfhekdaaGreatLMpb
import Derived.Test.YtfhiljglfhekdaaGreatLKfe
import Derived.Test.YtfhiljglfhekdaaGreatLKcj
import Derived.Test.YtfhiljglfhekdaaGreatLKci
import Derived.Test.YtfhiljglfhekdaaGreatLKcg
set_option linter.unusedVariables false
set_option linter.unusedSimpArgs false
set_option maxRecDepth 100000
namespace Go.Proofs.YtfhiljglfhekdaaGreat
open Go.RowKit
section
open Go.ChangeShapes Go.WideShapes Go.ChangeAt Go.RowKit Go.Deep
theorem cells_call14:Tryz.prog.cellsOf 43=11:=by kernel_rfl
theorem cells_op14:Tryz.prog.cellsOf 41=8:=by kernel_rfl
theorem cells_int14:Tryz.prog.cellsOf 3=1:=by kernel_rfl
theorem cells_bool14:Tryz.prog.cellsOf 4=1:=by kernel_rfl
theorem cells_str14:Tryz.prog.cellsOf 9=1:=by kernel_rfl
theorem cells_u64_14:Tryz.prog.cellsOf 26=1:=by kernel_rfl
theorem cells_u8_14:Tryz.prog.cellsOf 5=1:=by kernel_rfl
structure Yda (q:Yc4):Prop where
 x:OpOk q.x
 at_:q.at_<256
 c : -9223372036854775808≤q.c∧q.c≤9223372036854775807
instance:Inhabited Yc4:=⟨⟨0,⟨0,0,0,0,0,0,0,ByteArray.empty⟩,0,false⟩⟩
section
variable {H:Type} {enc:TypeId × Value→H} {w:World} {base:Nat} {sp:Nat→Bool} {held:Bool}
theorem op_fields {n:Nat} {cs:List Value} {x:DataW H × List MemPlace} (h:DataW.trod enc Tryz.prog w base sp held n 41 cs=some x) :
  ∃ q:OpM,cs=(opC q).toList∧OpOk q:=by
 obtain ⟨xs,k,_,_,hcl,hxl,hf⟩:=DataW.trod_struct Tryz.underlying41 h
 rw [cells_op14] at hcl
 match xs,hxl,cs,hcl with
 | [y0,y1,y2,y3,y4,y5,y6,y7],_,[v0,v1,v2,v3,v4,v5,v6,v7],_ =>
  have g0:=hf 0 _ rfl
  have g1:=hf 1 _ rfl
  have g2:=hf 2 _ rfl
  have g3:=hf 3 _ rfl
  have g4:=hf 4 _ rfl
  have g5:=hf 5 _ rfl
  have g6:=hf 6 _ rfl
  have g7:=hf 7 _ rfl
  simp [cells_int14,cells_u64_14,cells_str14] at g0 g1 g2 g3 g4 g5 g6 g7
  obtain ⟨k0,e0,_,w0⟩:=DataW.trod_int Tryz.underlying3 g0
  obtain ⟨k1,e1,_,w1⟩:=DataW.trod_int Tryz.underlying26 g1
  obtain ⟨k2,e2,_,w2⟩:=DataW.trod_int Tryz.underlying26 g2
  obtain ⟨k3,e3,_,w3⟩:=DataW.trod_int Tryz.underlying26 g3
  obtain ⟨k4,e4,_,w4⟩:=DataW.trod_int Tryz.underlying26 g4
  obtain ⟨k5,e5,_,w5⟩:=DataW.trod_int Tryz.underlying26 g5
  obtain ⟨k6,e6,_,w6⟩:=DataW.trod_int Tryz.underlying3 g6
  obtain ⟨k7,e7,_,w7⟩:=DataW.trod_string Tryz.underlying9 g7
  simp only [List.cons.injEq,and_true] at e0 e1 e2 e3 e4 e5 e6 e7
  have b1:=bounds_u64 w1
  have b2:=bounds_u64 w2
  have b3:=bounds_u64 w3
  have b4:=bounds_u64 w4
  have b5:=bounds_u64 w5
  obtain ⟨z1,rfl⟩:=Int.eq_ofNat_of_zero_le b1.1
  obtain ⟨z2,rfl⟩:=Int.eq_ofNat_of_zero_le b2.1
  obtain ⟨z3,rfl⟩:=Int.eq_ofNat_of_zero_le b3.1
  obtain ⟨z4,rfl⟩:=Int.eq_ofNat_of_zero_le b4.1
  obtain ⟨z5,rfl⟩:=Int.eq_ofNat_of_zero_le b5.1
  exact ⟨⟨k0,z1,z2,z3,z4,z5,k6,k7⟩,by rw [e0,e1,e2,e3,e4,e5,e6,e7];rfl,⟨by show z1<_;omega,by show z2<_;omega,by show z3<_;omega,by show z4<_;omega,by show z5<_;omega,w7⟩⟩
theorem call_fields {n:Nat} {cs:List Value} {x:DataW H × List MemPlace} (h:DataW.trod enc Tryz.prog w base sp held n 43 cs=some x) :
  ∃ q:Yc4,cs=q.C.toList∧Yda q:=by
 obtain ⟨xs,k,_,_,hcl,hxl,hf⟩:=DataW.trod_struct Tryz.underlying43 h
 rw [cells_call14] at hcl
 match xs,hxl,cs,hcl with
 | [y0,y1,y2,y3],_,[v0,v1,v2,v3,v4,v5,v6,v7,v8,v9,v10],_ =>
  have g0:=hf 0 _ rfl
  have g1:=hf 1 _ rfl
  have g2:=hf 2 _ rfl
  have g3:=hf 3 _ rfl
  simp [cells_int14,cells_op14,cells_u8_14,cells_bool14] at g0 g1 g2 g3
  obtain ⟨k0,e0,_,w0⟩:=DataW.trod_int Tryz.underlying3 g0
  obtain ⟨q1,e1,w1⟩:=op_fields g1
  obtain ⟨k2,e2,_,w2⟩:=DataW.trod_int Tryz.underlying5 g2
  obtain ⟨k3,e3,_⟩:=DataW.trod_bool Tryz.underlying4 g3
  simp only [List.cons.injEq,and_true] at e0 e2 e3
  have b0:=bounds_i64 w0
  have b2:=bounds_u8 w2
  obtain ⟨z2,rfl⟩:=Int.eq_ofNat_of_zero_le b2.1
  refine ⟨⟨k0,q1,z2,k3⟩,?_,⟨w1,by show z2<256;omega,b0⟩⟩
  unfold opC at e1
  simp only [List.cons.injEq,and_true] at e1
  obtain ⟨e10,e11,e12,e13,e14,e15,e16,e17⟩:=e1
  rw [e0,e2,e3,e10,e11,e12,e13,e14,e15,e16,e17];rfl
theorem open_call {r:Reach} {b0:Nat} {v:Value} {d:DataW H} {p:List MemPlace} (hv:Value.okWide Tryz.prog w r b0 43 v) (h:DataW.Trod enc Tryz.prog w base sp held 43 v d p) :
  ∃ q:Yc4,v=.agg q.C∧Yda q:=by
 obtain ⟨cs,rfl,hsz⟩:=okWide_struct Tryz.underlying43 hv
 obtain ⟨fuel,hf⟩:=h
 obtain ⟨q,e,hq⟩:=call_fields hf
 refine ⟨q,?_,hq⟩
 have e':cs.toList=q.C.toList:=by simpa [Value.cells] using e
 rw [Array.toList_inj.1 e']
theorem plain_spot14 {a:Addr} {v:Value} (h:w.cell? (a.add 0)=some v):∃ b off,a=⟨b,off,none⟩∧b<w.heap.size:=by
 obtain ⟨b,off,spot⟩:=a
 have ho:(⟨b,off,spot⟩:Addr).add 0=⟨b,off,spot⟩:=rfl
 rw [ho] at h
 have hb:b<w.heap.size:=by
  rcases Nat.lt_or_ge b w.heap.size with h'|h'
  ·exact h'
  ·simp [World.cell?,Array.getElem?_eq_none h'] at h
 rcases spot with _|s
 ·exact ⟨b,off,rfl,hb⟩
 ·exfalso
  unfold World.cell? at h
  simp only at h
  split at h <;> simp at h
theorem Yd4 {r:Reach} {b0:Nat} {v:Value} {d:DataW H} {p:List MemPlace} (hv:Value.okWide Tryz.prog w r b0 22 v) (h:DataW.Trod enc Tryz.prog w 0 (fun _=>true) true 22 v d p) :
  ∃ la c l,v=.slice la l.length c∧l.length≤c∧l.length≤maxLen∧(∀ q∈l,Yda q)∧Yco w la l:=by
 obtain ⟨a0,l0,c0,rfl⟩:=okWide_slice Tryz.underlying22 hv
 obtain ⟨fuel,hf⟩:=h
 rcases open_slice Tryz.underlying22 hf with ⟨h0,_⟩|⟨a,len,cap,m,n,D,Pl,hcs,_,hl,hm,hmeq,hx,hall⟩
 ·simp [Value.cells] at h0
  obtain ⟨rfl,rfl,rfl⟩:=h0
  exact ⟨none,0,[],rfl,Nat.le_refl _,Nat.zero_le _,(fun q hq=>by cases hq),⟨fun h=>absurd h (Nat.lt_irrefl _)⟩⟩
 ·simp [Value.cells] at hcs
  obtain ⟨rfl,rfl,rfl⟩:=hcs
  simp only [if_true] at hmeq
  subst hmeq
  have key:∀ i,i<l0→∃ q:Yc4,(∀ j u,q.C[j]?=some u→w.cell? (a.add (i*11+j))=some u)∧Yda q:=by
   intro i hi
   obtain ⟨cs,h1,h2⟩:=hall i (by omega)
   rw [cells_call14] at h1
   obtain ⟨_,hlen,hcell⟩:=World.cells?_some h1
   obtain ⟨q,rfl,hq⟩:=call_fields h2
   refine ⟨q,fun j u hj=>?_,hq⟩
   have hj11:j<11:=(Array.getElem?_eq_some_iff.1 hj).1
   have e0:=hcell j hj11
   rw [add_add] at e0
   rw [e0,Array.getElem?_toList]
   exact hj
  obtain ⟨q,hq⟩:=choose_lt (α:=Yc4) key
  have hlen:((List.range l0).map q).length=l0:=by simp
  refine ⟨some a,m,(List.range l0).map q,by rw [hlen],by rw [hlen];exact hl,by rw [hlen];exact Nat.le_trans hl hm,fun z hz=>?_,⟨fun hn=>?_⟩⟩
  ·obtain ⟨i,hi,rfl⟩:=List.mem_map.1 hz
   exact (hq i (List.mem_range.1 hi)).2
  ·rw [hlen] at hn
   obtain ⟨b,off,rfl,hb⟩:=plain_spot14 ((hq 0 hn).1 0 _ rfl)
   have hadd:∀ j,(⟨b,off,none⟩:Addr).add j=⟨b,off+j,none⟩:=fun j=>by unfold Addr.add;split <;> simp_all
   refine ⟨b,off,rfl,hb,fun i hi j u hj=>?_⟩
   rw [List.getElem_map,List.getElem_range] at hj
   have:=(hq i (by rw [hlen] at hi;exact hi)).1 j u hj
   rw [hadd] at this
   rw [Nat.add_assoc];exact this
end
end
section
section
variable {all K:Nat} {S S':MS} {c:Nat} {x:OpM} {e p v i q n:Nat} {b:Blk} {bs:List Blk}
theorem freed_apart (hM:HM K S) (hf:fstN (pF q) S.bs=some i) (hb:b∈usL S.bs) (hne:b.off+32≠q):b∈usL (frB S.bs q)∧datL (drpL S.ds q) (b.off+32)=datL S.ds (b.off+32):=by
 obtain ⟨A,y,C,e,hi,hu,hp,hb'⟩:=hM.hs.q.found hf
 have hus':usL (frB S.bs q)=usL A++usL C:=by
  rw [e] at hf ⊢
  rw [(frB_at (L:=S.L) hi hf).1,Ydf,Yd8 rfl]
 refine ⟨?_,by rw [Yc8,if_neg hne]⟩
 rw [hus']
 rw [e,Yb2 hu] at hb
 rcases Yba.1 hb with r|r
 ·rw [r] at hne;exact absurd hp hne
 ·exact r
theorem take_apart (hM:HM K S) {o:Nat} (ho:o≤8) (m a:Nat) (hb:b∈usL S.bs):b∈usL (mTk S o m a).bs∧datL (mTk S o m a).ds (b.off+32)=datL S.ds (b.off+32):=by
 by_cases hf:Yax S.bs m a=0
 ·rw [Yek hf]
  obtain ⟨k1,s,k2,k3,k4,U,V,k5,k6,k7⟩:=hM.hs.take hf ho
  rw [k5] at hb
  refine ⟨?_,?_⟩
  ·show b∈usL (tkB S.bs o m a)
   rw [k6];exact Yba.2 (.inr hb)
  ·show datL (putL S.ds (tkP S.bs m a) (sizN [] ((m+7) / 8))) (b.off+32)=_
   have:=k7 b hb
   rw [Ycr,if_neg (by omega)]
 ·rw [mTk_no hf];exact ⟨hb,rfl⟩
theorem owned_apart (hM:HM K S) (hf:fstN (pF q) S.bs=some i) (who:Nat) (hb:b∈usL S.bs) (hne:b.off+32≠q):b∈usL (mOwn S i who).bs:=by
 obtain ⟨A,y,C,e,hi,hu,hp,hb'⟩:=hM.hs.q.found hf
 obtain ⟨e1,e2⟩:=ownA_at (L:=S.L) hi y C who
 show b∈usL (ownA S.bs i who)
 rw [e,e1,Yb2 (by exact hu)]
 rw [e,Yb2 hu] at hb
 rcases Yba.1 hb with r|r
 ·rw [r] at hne;exact absurd hp hne
 ·exact Yba.2 (.inr r)
theorem resized_apart (hM:HM K S) (hf:fstN (pF q) S.bs=some i) (hz:rzE S.bs q n=0) (hb:b∈usL S.bs) (hne:b.off+32≠q):b∈usL (rzM S q n).bs∧datL (rzM S q n).ds (b.off+32)=datL S.ds (b.off+32):=by
 obtain ⟨A,y,C,e,hi,hu,hp,hb',s,o,k1,k2,U,V,k3,k4,k5⟩:=hM.rz_key hf hz
 have hb2:b∈usL A++usL C:=by
  rw [e,Yb2 hu] at hb
  rcases Yba.1 hb with r|r
  ·rw [r] at hne;exact absurd hp hne
  ·exact r
 have hb3:=(k4 b).2 hb2
 refine ⟨?_,?_⟩
 ·show b∈usL (rzB S.bs q n)
  rw [k3];exact Yba.2 (.inr hb3)
 ·show datL (putL (drpL S.ds q) (rzP S.bs q n) (sizN (datL S.ds q) ((n+7) / 8))) (b.off+32)=_
  have:=k5 b hb3
  rw [Ycr,if_neg (by omega),Yc8,if_neg hne]
theorem other_off (hM:HM K S) {k:Int} (hu:Ybj S.bs q (owL c k)=0) (hb:b∈usL S.bs) (h0:b.o≠0) (hc:b.o≠(c:Int)+1):∃ i,fstN (pF q) S.bs=some i∧b.off+32≠q:=by
 obtain ⟨i,hi,hm⟩:=Yck hu
 refine ⟨i,hi,fun e1=>?_⟩
 obtain ⟨A,y,C,e,hl,hy,hp,hg⟩:=hM.hs.q.found hi
 have hby:b=y:=hM.hs.q.one (Yb3.1 hb).1 (by rw [e];simp) (by omega)
 have hgo:gW S.bs i=b.o:=by unfold gW;rw [hg,hby]
 rw [hgo] at hm
 unfold owL at hm
 split at hm
 ·rcases List.mem_cons.1 hm with r|r
  ·exact h0 r
  ·exact hc (List.mem_singleton.1 r)
 ·exact hc (List.mem_singleton.1 hm)
theorem Yb5.apart (h:Yb5 all S c x S' e p v) (hM:HM K S) (hc8:c<8) (hb:b∈usL S.bs) (h0:b.o≠0) (hc:b.o≠(c:Int)+1):b∈usL S'.bs∧datL S'.ds (b.off+32)=datL S.ds (b.off+32):=by
 cases h with
 | alloc=>exact take_apart hM (by omega) _ _ hb
 | aligned=>exact take_apart hM (by omega) _ _ hb
 | calloc=>exact take_apart hM (by omega) _ _ hb
 | realloc k hu hz =>
  obtain ⟨i,hi,hne⟩:=other_off hM hu hb h0 hc
  exact resized_apart hM hi hz hb hne
 | free k hu hn =>
  obtain ⟨i,hi,hne⟩:=other_off hM hu hb h0 hc
  exact freed_apart hM hi hb hne
 | write k hu hl =>
  obtain ⟨i,hi,hne⟩:=other_off hM hu hb h0 hc
  refine ⟨hb,?_⟩
  show datL (putL S.ds x.off ((datL S.ds x.off).set x.i x.v)) (b.off+32)=_
  rw [Ycr,if_neg hne]
 | publish k hu hi =>
  obtain ⟨i',hi',hne⟩:=other_off hM hu hb h0 hc
  exact ⟨owned_apart hM hi _ hb hne,rfl⟩
 | give k hu hk ht hl hi =>
  obtain ⟨i',hi',hne⟩:=other_off hM hu hb h0 hc
  exact ⟨owned_apart hM hi _ hb hne,rfl⟩
 | grow k hg =>
  refine ⟨?_,rfl⟩
  show b∈usL (grJ S.bs S.E x.n)
  unfold grJ
  rw [Ydf,Yd8 rfl,show usL ([]:List Blk)=[] from rfl,List.append_nil]
  exact hb
 | @destroy A C p k ho hnm =>
  obtain ⟨b',k1,k2,k3⟩:=hM.nu (x.name,p) (by rw [hnm];simp)
  obtain ⟨X,Y,e2,hu⟩:=us_split k1
  have hf:fstN (pF p) S.bs=some X.length:=by
   have:=hM.hs.q
   rw [e2] at this ⊢
   have k3:b'.off+32=p:=k3
   rw [← k3];exact this.find hu
  have hne:b.off+32≠p:=fun e3=>by
   have hbb:b=b':=hM.hs.q.one (Yb3.1 hb).1 (Yb3.1 k1).1 (by have k3:b'.off+32=p:=k3;omega)
   rw [hbb] at h0
   exact h0 k2
  have:=freed_apart hM hf hb hne
  exact this
 | cons=>exact take_apart hM (by omega) _ _ hb
 | _=>exact ⟨hb,rfl⟩
theorem Ybz.apart {c:Int} (h:Ybz all S c x S' e p v) (hM:HM K S) (hb:b∈usL S.bs) (h0:b.o≠0) (hc:b.o≠c+1):b∈usL S'.bs∧datL S'.ds (b.off+32)=datL S.ds (b.off+32):=by
 cases h with
 | act h1 h2 h3 h4 h5 h6=>exact h6.apart hM h2 hb h0 (by rw [← h1];exact hc)
 | _=>exact ⟨hb,rfl⟩
theorem Yb5.end_ (h:Yb5 all S c x S' e p v):S.E≤S'.E:=by
 have hT:∀ o m a,(mTk S o m a).E=S.E:=fun o m a=>by unfold mTk;split <;> rfl
 cases h with
 | alloc=>exact Nat.le_of_eq (hT _ _ _).symm
 | aligned=>exact Nat.le_of_eq (hT _ _ _).symm
 | calloc=>exact Nat.le_of_eq (hT _ _ _).symm
 | cons=>exact Nat.le_of_eq (hT _ _ _).symm
 | grow=>exact Nat.le_add_right _ _
 | _=>exact Nat.le_refl _
theorem Ybz.end_ {c:Int} (h:Ybz all S c x S' e p v):S.E≤S'.E:=by
 cases h with
 | act h1 h2 h3 h4 h5 h6=>exact h6.end_
 | _=>exact Nat.le_refl _
theorem fitErr_le (bs:List Blk) (n a:Nat):Yax bs n a≤3:=by unfold Yax;repeat' split <;> try omega
theorem Yb5.no (h:Yb5 all S c x S' e p v) (he:e≠0):S'=S∧p=0∧v=0:=by
 cases h with
 | detach=>exact absurd rfl he
 | alloc=>exact ⟨mTk_no he,if_neg he,rfl⟩
 | aligned=>exact ⟨mTk_no he,if_neg he,rfl⟩
 | calloc=>exact ⟨mTk_no he,if_neg he,rfl⟩
 | realloc=>exact absurd rfl he
 | free=>exact absurd rfl he
 | read=>exact absurd rfl he
 | write=>exact absurd rfl he
 | publish=>exact absurd rfl he
 | give=>exact absurd rfl he
 | grow=>exact absurd rfl he
 | find=>exact absurd rfl he
 | destroy=>exact absurd rfl he
 | cons=>exact absurd rfl he
 | _=>exact ⟨rfl,rfl,rfl⟩
theorem Yb5.err (h:Yb5 all S c x S' e p v):e≤11:=by
 have h1:∀ bs n a,Yax bs n a≤11:=fun bs n a=>Nat.le_trans (fitErr_le bs n a) (by decide)
 have h2:∀ bs q ow,Ybj bs q ow≤11:=fun bs q ow=>by unfold Ybj;repeat' split <;> try omega
 have h3:∀ bs q n,rzE bs q n≤11:=fun bs q n=>by unfold rzE tkE;repeat' split <;> try omega
 have h4:∀ a b n,grF a b n≤11:=fun a b n=>by unfold grF;repeat' split <;> try omega
 cases h with
 | alloc=>exact h1 _ _ _
 | aligned=>exact h1 _ _ _
 | calloc=>exact h1 _ _ _
 | bad=>exact h2 _ _ _
 | reallocNo=>exact h3 _ _ _
 | growNo=>exact h4 _ _ _
 | consNo=>exact h1 _ _ _
 | _=>decide
theorem Ybz.no {c:Int} (h:Ybz all S c x S' e p v) (he:e≠0):S'=S∧p=0∧v=0:=by
 cases h with
 | attach=>exact absurd rfl he
 | act h1 h2 h3 h4 h5 h6=>exact h6.no he
 | _=>exact ⟨rfl,rfl,rfl⟩
theorem Ybz.err {c:Int} (h:Ybz all S c x S' e p v):e≤11:=by
 cases h with
 | act h1 h2 h3 h4 h5 h6=>exact h6.err
 | _=>decide
theorem kill_none (hM:HM K S) (hc:c<8):∀ b∈usL (killM S c).bs,b.o≠(c:Int)+1:=by
 intro b hb ho
 obtain ⟨h1,h2⟩:=hM.hs.q.ls c hc
 have e:=killL_bs (S.L c) (S:=S) (Z:=S.bs) (Ydq hM.hs.mg).symm hM.hs.q h1 fun x hx=>by
  obtain ⟨b,k1,k2,k3⟩:=(h2 x).1 hx
  exact ⟨b,k1,k2⟩
 have hb:b∈usL (killL S (S.L c)).bs:=hb
 rw [e,Ydf] at hb
 obtain ⟨hm,hu⟩:=Yb3.1 hb
 obtain ⟨y,hy,ey⟩:=List.mem_map.1 hm
 unfold markF at ey
 by_cases hk:y.u=true∧y.off∈S.L c
 ·rw [if_pos hk] at ey;rw [← ey] at hu;cases hu
 ·rw [if_neg hk] at ey
  subst ey
  exact hk ⟨hu,(h2 _).2 ⟨y,Yb3.2 ⟨hy,hu⟩,rfl,ho⟩⟩
def Ycy (S:MS) (c:Int):MS:=if 0≤c∧c<8 then killM S c.toNat else S
theorem killC_yes (hc:c<8):Ycy S (c:Int)=killM S c:=by unfold Ycy;rw [if_pos ⟨by omega,by omega⟩,Int.toNat_natCast]
theorem killC_no {c:Int} (hc:¬ (0≤c∧c<8)):Ycy S c=S:=if_neg hc
theorem killC_is {c:Int} (hM:HM K S):HM K (Ycy S c):=by
 unfold Ycy
 split
 ·exact hM.kill (by omega)
 ·exact hM
theorem killC_end (S:MS) (c:Int):(Ycy S c).E=S.E:=by
 unfold Ycy
 split
 ·exact (killL_rest _ _).2.1
 ·rfl
theorem killC_none {c:Int} (hM:HM K S) (h0:0≤c):∀ b∈usL (Ycy S c).bs,b.o≠c+1:=by
 intro b hb
 by_cases hc:0≤c∧c<8
 ·unfold Ycy at hb
  rw [if_pos hc] at hb
  have:=kill_none hM (c:=c.toNat) (by omega) b hb
  omega
 ·rw [killC_no hc] at hb
  have:=(hM.hs.q.is b (Yb3.1 hb).1).us (Yb3.1 hb).2
  omega
theorem fit_some14 {b:Blk} (hb:b∈bs) (hu:b.u=false) (hal:b.off % 16=0) (hs:Yat n≤b.s):fitM bs n 16≠none:=fun h=>by
 have:=Yd0 (fitB (Yat n) 16) bs bs.length
 rw [show Yc0 (fitB (Yat n) 16) bs bs.length=none from h] at this
 obtain ⟨j,hj,e⟩:=List.mem_iff_getElem.1 hb
 have h1:=this j hj
 rw [List.getD_eq_getElem?_getD,List.getElem?_eq_getElem hj,Option.getD_some,e] at h1
 unfold fitB at h1
 rw [hu,decide_eq_true hs,pad16 hal,decide_eq_true (Nat.zero_le _)] at h1
 cases h1
theorem fitErr_some14 {a:Nat} (h:Ybr a) (hn:n≤18446744073709551560) (hf:fitM bs n a=some i):Yax bs n a=0:=by unfold Yax;rw [if_neg (fun k=>k h),if_neg (by omega),if_neg (by rw [hf];simp)]
theorem fit_is (hM:HM K S) (hn:n≤18446744073709551560):(Yax S.bs n 16=0∧∃ b∈S.bs,b.u=false∧Yat n≤b.s)∨(Yax S.bs n 16=3∧∀ b∈S.bs,b.u=false→¬ Yat n≤b.s):=by
 have ha:Ybr 16:=by unfold Ybr;decide
 cases hf:fitM S.bs n 16 with
 | none =>
  refine .inr ⟨fitErr_none ha hn hf,fun b hb hu hs=>?_⟩
  exact fit_some14 hb hu (hM.hs.q.mem hb).1 hs hf
 | some i =>
  have h0:=fitErr_some14 ha hn hf
  refine .inl ⟨h0,?_⟩
  obtain ⟨A,b,C,k1,k2,k3,k4,k5,k6,k7,k8⟩:=take_at hM.hs h0
  exact ⟨b,by rw [k1];simp,k3,by omega⟩
theorem fit_big (hn:18446744073709551560<n):Yax bs n 16=2:=by
 have ha:Ybr 16:=by unfold Ybr;decide
 unfold Yax
 rw [if_neg (fun k=>k ha),if_pos hn]
theorem Ybk.sum {E:Nat}:∀ {o:Nat} {bs:List Blk},Ybk E o bs→o+(bs.map Blk.s).sum=E
 | o,[],h=>by unfold Ybk at h;simp;omega
 | o,b::r,h=>by
  obtain ⟨h1,h2,h3,h4⟩:=h
  have:=h4.sum
  simp only [List.map_cons,List.sum_cons]
  omega
theorem mg_at:∀ {bs:List Blk},Mg bs→∀ k,k+1<bs.length→(bs.getD k default).u=true∨(bs.getD (k+1) default).u=true
 | [],_,k,hk=>by simp at hk
 | [_],_,k,hk=>by simp at hk
 | b::c::r,h,0,hk=>h.1
 | b::c::r,h,k+1,hk=>by
  have:=mg_at (bs:=c::r) h.2 k (by simpa using hk)
  simpa using this
theorem pay_small (hM:HM K S) (k:Nat):payB S.bs k<5000:=by
 unfold payB
 have hall:∀ y∈payL S.bs,y<5000:=fun y hy=>by
  unfold payL at hy
  obtain ⟨z,hz,rfl⟩:=List.mem_map.1 hy
  have:∃ b∈S.bs,b.off=z:=by
   unfold usedB at hz
   obtain ⟨b,hb,rfl⟩:=List.mem_map.1 hz
   exact ⟨b,(List.mem_filter.1 hb).1,rfl⟩
  obtain ⟨b,hb,rfl⟩:=this
  have h1:=hM.hs.q.mem hb
  have h2:=hM.hs.q.top
  omega
 rw [List.getD_eq_getElem?_getD]
 cases h:(payL S.bs)[k % (payL S.bs).length]? with
 | none=>decide
 | some y=>exact hall y (List.mem_of_getElem? h)
theorem resM_ok (hM:HM K S) (hx:OpOk x) (at_:Nat):OpOk (resM S.bs x at_):=by
 refine ⟨hx.n,hx.a,?_,hx.i,hx.v,hx.name⟩
 show (if x.off<16 then payB S.bs at_+x.off else x.off)<18446744073709551616
 have:=pay_small hM at_
 have:=hx.off
 split <;> omega
end
end
section
def Ybw (w0 W W1:World):Prop:=∃ p:Nat→Prop,Ybo p W W1∧∀ g,p g→w0.heap.size≤g∧OkT W g
section
variable {w0 W W1 W2:World} {b:Nat} {cs:Array Value} {t:TypeId}
theorem Ybw.size (h:Ybw w0 W W1):W.heap.size≤W1.heap.size:=by
 obtain ⟨p,h,_⟩:=h
 exact h.size
theorem Ybw.grown (h:Ybw w0 W W1) (hg:w0.grownBy W none):w0.grownBy W1 none:=by
 obtain ⟨p,h1,h2⟩:=h
 exact (Ybo.first hg h1).grown fun i hi=>(h2 i hi).1
theorem Ybw.of_none (hg:W.grownBy W1 none):Ybw w0 W W1:=⟨fun _=>False,Ybo.of_none hg _,fun _ h=>h.elim⟩
theorem OkT.not {g:Nat} (h:OkT W g) (hb:W.heap[g]?=some (.cells cs t (0,0))) (h1:t≠53) (h2:t≠26) (h3:t≠91):False:=by
 rcases h with ⟨es,clock,hm⟩|⟨c,t',fr,hm,hq⟩
 ·rw [hb] at hm;cases hm
 ·rw [hb] at hm
  injection hm with hm
  injection hm with _ hm _
  subst hm
  rcases hq with e|e|e
  ·exact h1 e
  ·exact h2 e
  ·exact h3 e
theorem Ybw.box (h:Ybw w0 W W1) (hb:W.heap[b]?=some (.cells cs t (0,0))) (h1:t≠53) (h2:t≠26) (h3:t≠91):W1.heap[b]?=some (.cells cs t (0,0)):=by
 obtain ⟨p,ht,hp⟩:=h
 exact ht.heap hb fun k=>(hp b k).2.not hb h1 h2 h3
end
section
variable {w w':World} {F:Nat→Prop} {P base all K b:Nat} {v:Value} {S S':MS} {cs:Array Value} {t:TypeId}
theorem Both.past (h:Both w F P base v all K S) (hg:w.grownBy w' (some b)) (hb:w.heap[b]?=some (.cells cs t (0,0))) (ht:boxT t) (h1:t≠53) (h3:t≠91):Both w' F P base v all K S:=by
 obtain ⟨l,hs,hr⟩:=h.ex
 refine ⟨⟨l,⟨hs.md.other hb h1 ht.2.1 h3 hg,hs.st.past hg hb ht,fun g hF=>?_⟩,hr⟩,h.hm,Nat.le_trans h.bw hg.size⟩
 have hok:=hs.ok g hF
 have hne:g≠b:=fun e=>by subst e;exact hok.not hb h1 ht.2.1 h3
 rcases hok with ⟨es,clock,hm⟩|⟨c,t',fr,hm,hq⟩
 ·exact .inl ⟨es,clock,(hg.block _ (lt_of_block hm) (fun e=>hne (by injection e))).trans hm⟩
 ·exact .inr ⟨c,t',fr,(hg.block _ (lt_of_block hm) (fun e=>hne (by injection e))).trans hm,hq⟩
theorem Half.past (h:Half w F P base v all K S S') (hg:w.grownBy w' (some b)) (hb:w.heap[b]?=some (.cells cs t (0,0))) (ht:boxT t) (h1:t≠53) (h3:t≠91):Half w' F P base v all K S S':=by
 obtain ⟨l,hs,hr⟩:=h.ex
 refine ⟨⟨l,⟨hs.md.other hb h1 ht.2.1 h3 hg,hs.st.past hg hb ht,fun g hF=>?_⟩,hr⟩,h.hm,h.hm',Nat.le_trans h.bw hg.size⟩
 have hok:=hs.ok g hF
 have hne:g≠b:=fun e=>by subst e;exact hok.not hb h1 ht.2.1 h3
 rcases hok with ⟨es,clock,hm⟩|⟨c,t',fr,hm,hq⟩
 ·exact .inl ⟨es,clock,(hg.block _ (lt_of_block hm) (fun e=>hne (by injection e))).trans hm⟩
 ·exact .inr ⟨c,t',fr,(hg.block _ (lt_of_block hm) (fun e=>hne (by injection e))).trans hm,hq⟩
end
structure Pl (w0:World) (P base:Nat) (v:Value) (K:Nat) (S:MS) (W:World):Prop where
 ex:∃ F,Both W F P base v 4800 K S∧∀ g,F g→w0.heap.size≤g
 gr:w0.grownBy W none
 lo:3776<S.E
structure PlH (w0:World) (P base:Nat) (v:Value) (K:Nat) (S S':MS) (W:World):Prop where
 ex:∃ F,Half W F P base v 4800 K S S'∧∀ g,F g→w0.heap.size≤g
 gr:w0.grownBy W none
 lo:3776<S'.E
structure PlK (w0:World) (P base:Nat) (v:Value) (K:Nat) (S:MS) (c:Int) (W:World):Prop where
 ex:∃ F l,Side W F P base v 4800 l (Ycy S c).nm (Ycy S c).lv S∧Rep l (Ycy S c)∧∀ g,F g→w0.heap.size≤g
 hm:HM K S
 bw:base≤W.heap.size
 gr:w0.grownBy W none
 lo:3776<S.E
section
variable {w0 W W1:World} {P base K b:Nat} {v:Value} {S S':MS} {c:Int} {x:OpM} {e p q:Nat} {cs:Array Value} {t:TypeId}
theorem Pl.hm (h:Pl w0 P base v K S W):HM K S:=by
 obtain ⟨F,h1,_⟩:=h.ex
 exact h1.hm
theorem Pl.later (h:Pl w0 P base v K S W) (hg:W.grownBy W1 none):Pl w0 P base v K S W1:=by
 obtain ⟨F,h1,h2⟩:=h.ex
 exact ⟨⟨F,h1.later hg,h2⟩,Yaa h.gr hg,h.lo⟩
theorem PlH.later (h:PlH w0 P base v K S S' W) (hg:W.grownBy W1 none):PlH w0 P base v K S S' W1:=by
 obtain ⟨F,h1,h2⟩:=h.ex
 exact ⟨⟨F,h1.later hg,h2⟩,Yaa h.gr hg,h.lo⟩
theorem PlK.later (h:PlK w0 P base v K S c W) (hg:W.grownBy W1 none):PlK w0 P base v K S c W1:=by
 obtain ⟨F,l,h1,h2,h3⟩:=h.ex
 exact ⟨⟨F,l,h1.plain hg (h1.st.later hg),h2,h3⟩,h.hm,Nat.le_trans h.bw hg.size,Yaa h.gr hg,h.lo⟩
theorem Pl.past (h:Pl w0 P base v K S W) (hg:W.grownBy W1 (some b)) (hb:W.heap[b]?=some (.cells cs t (0,0))) (hw:w0.heap.size≤b) (ht:boxT t) (h1:t≠53) (h3:t≠91):Pl w0 P base v K S W1:=by
 obtain ⟨F,k1,k2⟩:=h.ex
 exact ⟨⟨F,k1.past hg hb ht h1 h3,k2⟩,Yaj h.gr hg (fun i hi=>.inl (by injection hi with hi;omega)),h.lo⟩
theorem PlH.past (h:PlH w0 P base v K S S' W) (hg:W.grownBy W1 (some b)) (hb:W.heap[b]?=some (.cells cs t (0,0))) (hw:w0.heap.size≤b) (ht:boxT t) (h1:t≠53) (h3:t≠91):PlH w0 P base v K S S' W1:=by
 obtain ⟨F,k1,k2⟩:=h.ex
 exact ⟨⟨F,k1.past hg hb ht h1 h3,k2⟩,Yaj h.gr hg (fun i hi=>.inl (by injection hi with hi;omega)),h.lo⟩
theorem Pl.agg (h:Pl w0 P base v K S W):∃ cs:Array Value,v=.agg cs∧cs.size=21∧cs.all (·.oneCell')=true:=by
 obtain ⟨F,k1,k2⟩:=h.ex
 obtain ⟨l,hs,_⟩:=k1.ex
 obtain ⟨cs,h1,h2,h3,_⟩:=hs.st.cells
 exact ⟨cs,h1,h2,h3⟩
theorem trim_new {F:Nat→Prop} (k2:∀ g,F g→w0.heap.size≤g) (hg:w0.grownBy W none):∀ g,trimF W1 (growF F W W1) g→w0.heap.size≤g:=fun g h=>by
 rcases h.1 with k|k
 ·exact k2 g k
 ·exact Nat.le_trans hg.size k.1
theorem Pl.code (h:Pl w0 P base v K S W) (hx:OpOk x) (ha:Ybz 4800 S c x S' e p q) :
  Calls Tryz.prog 13 #[.pointer (some ⟨P,0,none⟩),.int .i64 c,.agg (opC x)] W fun en W1=>en=.returned (.agg #[.int .i64 (e:Nat),.int .u64 (p:Nat),.int .u64 (q:Nat)])∧PlH w0 P base v K S S' W1∧Ybw w0 W W1:=by
 obtain ⟨F,k1,k2⟩:=h.ex
 obtain ⟨l,hs,_⟩:=k1.ex
 refine (both_code k1 hx (Nat.le_refl _) ha).mono ?_
 rintro en W1 ⟨rfl,ht,hh⟩
 have hst:Ybw w0 W W1:=⟨F,ht,fun g hg=>⟨k2 g hg,hs.ok g hg⟩⟩
 exact ⟨rfl,⟨⟨_,hh,trim_new k2 h.gr⟩,hst.grown h.gr,Nat.lt_of_lt_of_le h.lo ha.end_⟩,hst⟩
theorem PlH.plain (h:PlH w0 P base v K S S' W) (hK:K≤1000000) (hx:OpOk x) (ha:Ybz 4800 S c x S' e p q) :
  Calls Tryz.prog 26 #[v,.int .i64 c,.agg (opC x)] W fun en W1=>∃ cs',en=.returned (.tuple #[.agg cs',.agg #[.int .i64 (e:Nat),.int .u64 (p:Nat),.int .u64 (q:Nat)]])∧cs'.size=21∧cs'.all (·.oneCell')=true∧Pl w0 P base (.agg cs') (K+1) S' W1∧W.grownBy W1 none:=by
 obtain ⟨F,k1,k2⟩:=h.ex
 refine (both_plain k1 hK hx (Nat.le_refl _) ha).mono ?_
 rintro en W1 ⟨v',rfl,hb,hg⟩
 have hp:Pl w0 P base v' (K+1) S' W1:=⟨⟨F,hb,k2⟩,Yaa h.gr hg,h.lo⟩
 obtain ⟨cs,rfl,q1,q2⟩:=hp.agg
 exact ⟨cs,rfl,q1,q2,hp,hg⟩
theorem PlH.same (h:PlH w0 P base v K S S' W) (e:S'=S):Pl w0 P base v K S W:=by
 subst e
 obtain ⟨F,k1,k2⟩:=h.ex
 obtain ⟨l,hs,hr⟩:=k1.ex
 exact ⟨⟨F,⟨⟨l,hs,hr⟩,k1.hm,k1.bw⟩,k2⟩,h.gr,h.lo⟩
theorem Pl.kill (h:Pl w0 P base v K S W) (c:Int) :
  Calls Tryz.prog 17 #[.pointer (some ⟨P,0,none⟩),.int .i64 c] W fun en W1=>en=.returned (.tuple #[])∧PlK w0 P base v K S c W1∧Ybw w0 W W1:=by
 obtain ⟨F,k1,k2⟩:=h.ex
 obtain ⟨l,hs,hr⟩:=k1.ex
 by_cases hc:0≤c∧c<8
 ·obtain ⟨k,rfl⟩:=Int.eq_ofNat_of_zero_le hc.1
  refine (both_kill (c:=k) k1 (by omega)).mono ?_
  rintro en W1 ⟨rfl,ht,l',hs',hr',hb'⟩
  have hst:Ybw w0 W W1:=⟨F,ht,fun g hg=>⟨k2 g hg,hs.ok g hg⟩⟩
  refine ⟨rfl,⟨⟨trimF W1 (growF F W W1),l',?_,?_,trim_new k2 h.gr⟩,k1.hm,hb',hst.grown h.gr,h.lo⟩,hst⟩
  ·rw [killC_yes (by omega)];exact hs'
  ·rw [killC_yes (by omega)];exact hr'
 ·refine (kill_not P hc W).mono ?_
  rintro en W1 ⟨rfl,rfl⟩
  refine ⟨rfl,⟨⟨F,l,?_,?_,k2⟩,k1.hm,k1.bw,h.gr,h.lo⟩,Ybw.of_none (Yag _ _)⟩
  ·rw [killC_no hc];exact hs
  ·rw [killC_no hc];exact hr
theorem PlK.died (h:PlK w0 P base v K S c W) (hK:K≤1000000) :
  Calls Tryz.prog 18 #[v,.int .i64 c] W fun en W1=>∃ cs',en=.returned (.agg cs')∧cs'.size=21∧cs'.all (·.oneCell')=true∧Pl w0 P base (.agg cs') K (Ycy S c) W1∧W.grownBy W1 none:=by
 obtain ⟨F,l,hs,hr,k2⟩:=h.ex
 have hlo:3776<(Ycy S c).E:=by rw [killC_end];exact h.lo
 by_cases hc:0≤c∧c<8
 ·obtain ⟨k,rfl⟩:=Int.eq_ofNat_of_zero_le hc.1
  have hk:k<8:=by omega
  rw [killC_yes hk] at hs hr hlo
  refine (both_died hs hr h.hm h.bw hK hk).mono ?_
  rintro en W1 ⟨v',rfl,hb,hg⟩
  have hp:Pl w0 P base v' K (killM S k) W1:=⟨⟨F,hb,k2⟩,Yaa h.gr hg,hlo⟩
  obtain ⟨cs,rfl,q1,q2⟩:=hp.agg
  rw [killC_yes hk]
  exact ⟨cs,rfl,q1,q2,hp,hg⟩
 ·rw [killC_no hc] at hs hr hlo
  refine (rkill_not hs.st hc).mono ?_
  rintro en W1 ⟨rfl,hg⟩
  have hp:Pl w0 P base v K S W1:=⟨⟨F,⟨⟨l,hs.plain hg (hs.st.later hg),hr⟩,h.hm,Nat.le_trans h.bw hg.size⟩,k2⟩,Yaa h.gr hg,h.lo⟩
  rw [killC_no hc]
  obtain ⟨cs,rfl,q1,q2⟩:=hp.agg
  exact ⟨cs,rfl,q1,q2,hp,hg⟩
theorem Pl.resolve (h:Pl w0 P base v K S W) (c:Int) {at_:Nat} (hat:at_<256) (kill:Bool) :
  Calls Tryz.prog 14 #[v,.agg (callC c x at_ kill)] W fun en W1=>en=.returned (.agg (opC (resM S.bs x at_)))∧W.grownBy W1 none:=by
 obtain ⟨F,k1,k2⟩:=h.ex
 obtain ⟨l,hs,hr⟩:=k1.ex
 have hM:=h.hm
 by_cases hx:x.off<16
 ·exact rresolve14_low hs.st (by have:=hM.hs.few;omega) hM.hs.fine.bounds c x hat kill hx (by have:=pay_small hM at_;omega)
 ·exact rresolve14_high hs.st c x at_ kill (by omega)
theorem code_new (w0:World):Calls Tryz.prog 23 #[.int .u64 4480,.int .u64 4800] w0 fun e w'=>e=.returned (.pointer (some ⟨w0.heap.size+2,0,none⟩))∧Md w' (fun g=>w0.heap.size≤g∧g<w'.heap.size) (w0.heap.size+2) 4800 [Ya9 3776 (4480 - 3776)] [] (fun _=>false)∧w0.grownBy w' none :=
 mnew_ok (size:=4480) (all:=4800) ⟨by decide,by decide,by decide,by decide,by decide⟩
theorem plain_new {F:Nat→Prop} (md:Md W F P 4800 [Ya9 3776 (4480 - 3776)] [] (fun _=>false)) (hF:∀ g,F g→w0.heap.size≤g) (hg0:w0.grownBy W none) :
  Calls Tryz.prog 25 #[.int .u64 4480,.int .u64 4800] W fun e W1=>∃ cs,e=.returned (.agg cs)∧cs.size=21∧cs.all (·.oneCell')=true∧Pl w0 P W.heap.size (.agg cs) 0 (newM 4480) W1∧W.grownBy W1 none:=by
 refine (both_new (size:=4480) md (by decide) (by decide) (by decide)).mono ?_
 rintro e W1 ⟨v',rfl,hb,hg⟩
 have hp:Pl w0 P W.heap.size v' 0 (newM 4480) W1:=⟨⟨_,hb,fun g hq=>hF g hq.1⟩,Yaa hg0 hg,by decide⟩
 obtain ⟨cs,rfl,q1,q2⟩:=hp.agg
 exact ⟨cs,rfl,q1,q2,hp,hg⟩
end
end
section
def wdL (S:MS) (k:Nat):List Nat:=if (S.bs.getD k default).u=true then datL S.ds ((S.bs.getD k default).off+32) else []
theorem wdL_len {K:Nat} {S:MS} (hM:HM K S) {k:Nat} (hk:k<S.bs.length):(wdL S k).length≤1000:=by
 unfold wdL
 split
 ·rename_i hu
  have hm:S.bs.getD k default∈S.bs:=by rw [List.getD_eq_getElem?_getD,List.getElem?_eq_getElem hk];exact List.getElem_mem hk
  rw [hM.dl _ (Yb3.2 ⟨hm,hu⟩)]
  have h1:=(hM.hs.q.is _ hm).us hu
  have h2:=hM.hs.q.mem hm
  have h3:=hM.hs.q.top
  omega
 ·exact Nat.zero_le _
structure BkAt (w:World) (bo bi:Nat) (ty:TypeId) (a:Option Addr) (S:MS):Prop where
 row:∀ k,k<S.bs.length→∃ g p cur,a=some ⟨g,0,none⟩∧bo≤g∧w.heap[g]?=some (.cells cur ty (0,0))∧(∀ j v,(bkP (S.bs.getD k default) p)[j]?=some v→cur[k*6+j]?=some v)∧OwnW w bi p (wdL S k)
theorem bkP_cel (x:KB) (j:Nat):(bkP x.b (kv x))[j]?=x.cel[j]?:=by
 show (List.toArray [_,_,_,_,_,_])[j]?=_
 rw [List.getElem?_toArray];rfl
section
variable {w w' W:World} {bo bi k:Nat} {ty:TypeId} {a:Option Addr} {S:MS}
theorem BkAt.turned {p:Nat→Prop} (h:BkAt w bo bi ty a S) (ht:Ybo p w w') (h1:∀ g,p g→g<bo) (h2:∀ g,p g→g<bi):BkAt w' bo bi ty a S:=⟨fun k hk=>by
 obtain ⟨g,q,cur,e1,e2,e3,e4,e5⟩:=h.row k hk
 exact ⟨g,q,cur,e1,e2,ht.heap e3 (fun hp=>by have:=h1 g hp;omega),e4,Yd2 e5 ht fun g' hg' hp=>by
  have:=(World.ownsRow.lt e5 g' hg').1
  have:=h2 g' hp
  omega⟩⟩
theorem BkAt.later (h:BkAt w bo bi ty a S) (hg:w.grownBy w' none):BkAt w' bo bi ty a S:=h.turned (Ybo.of_none hg (fun _=>False)) (fun _ h=>h.elim) (fun _ h=>h.elim)
theorem BkAt.at_ (h:BkAt w bo bi ty a S) (hk:k<S.bs.length):∃ g pa pc,a=some ⟨g,0,none⟩∧bo≤g∧∀ V,w.grownBy V none →
  (V.cell? ⟨g,k*6,none⟩=some (.int .u64 ((S.bs.getD k default).off:Nat))∧V.cell? ⟨g,k*6+1,none⟩=some (.int .u64 ((S.bs.getD k default).s:Nat))∧V.cell? ⟨g,k*6+2,none⟩=some (.bool (S.bs.getD k default).u)∧V.cell? ⟨g,k*6+3,none⟩=some (.int .i64 (S.bs.getD k default).o)∧V.cell? ⟨g,k*6+4,none⟩=some (.int .u64 ((S.bs.getD k default).n:Nat))∧V.cell? ⟨g,k*6+5,none⟩=some (.slice pa (wdL S k).length pc))∧OwnW V bi (.slice pa (wdL S k).length pc) (wdL S k):=by
 obtain ⟨g,q,cur,e1,e2,e3,e4,e5⟩:=h.row k hk
 obtain ⟨pa,pc,rfl⟩:=e5.slice
 refine ⟨g,pa,pc,e1,e2,fun V hV=>⟨?_,e5.later hV⟩⟩
 have hb:=(hV.block _ (lt_of_block e3) (by simp)).trans e3
 exact ⟨Yas hb (e4 0 _ rfl),Yas hb (e4 1 _ rfl),Yas hb (e4 2 _ rfl),Yas hb (e4 3 _ rfl),Yas hb (e4 4 _ rfl),Yas hb (e4 5 _ rfl)⟩
end
section
variable {w0 w w' W:World} {P base K:Nat} {v:Value} {S:MS}
theorem hm_pos (hM:HM K S) (hlo:3776<S.E):0<S.bs.length:=by
 rcases Nat.eq_zero_or_pos S.bs.length with h|h
 ·have hb:S.bs=[]:=List.length_eq_zero_iff.1 h
  have:=hM.hs.q.ch
  rw [hb] at this
  have e:3776=S.E:=this
  omega
 ·exact h
theorem md_blocks {F:Nat→Prop} {all:Nat} {l:List KB} (md:Md W F P all l S.nm S.lv) (hr:Rep l S) (hM:HM K S) (hlo:3776<S.E) :
  Calls Tryz.prog 15 #[.pointer (some ⟨P,0,none⟩)] W fun e w'=>∃ g c,e=.returned (.slice (some ⟨g,0,none⟩) S.bs.length c)∧BkAt w' W.heap.size W.heap.size 53 (some ⟨g,0,none⟩) S∧W.grownBy w' none:=by
 have hlen:l.length=S.bs.length:=by rw [← hr.bs,List.length_map]
 have hfew:=hM.hs.few
 have hpos:=hm_pos hM hlo
 have hm:∀ z∈l,z.m≤1000000:=fun z hz=>by
  cases hu:z.b.u with
  | false=>rw [(md.free z hz hu).2.1];exact Nat.zero_le _
  | true =>
   have h1:=own_len (md.own z hz)
   have h2:=(hr.len hM hz hu).2
   omega
 refine (blocks_any md (by omega) (by omega) hm).mono ?_
 rintro e w1 ⟨g,c,f,f',rfl,hk,hrow,hlt,hC,hg⟩
 rw [hlen] at hk hrow hC ⊢
 refine ⟨g,c,rfl,⟨fun k hkn=>?_⟩,hg⟩
 obtain ⟨cur,h1,h2,h3⟩:=hrow.ex
 obtain ⟨q1,q2,q3,q4⟩:=hC k hkn
 have hbk:S.bs.getD k default=(f' k).b:=by
  rw [q1,← hr.bs,← hk,List.getD_eq_getElem?_getD,List.getElem?_map]
  unfold Ycb
  rw [List.getElem?_map,List.getElem?_range hkn];rfl
 have hmem:f k∈l:=by rw [← hk];unfold Ycb;exact List.mem_map_of_mem (List.mem_range.2 hkn)
 have hwd:wdL S k=(f k).d:=by
  unfold wdL
  rw [hbk,q1]
  cases hu:(f k).b.u with
  | false=>rw [if_neg (by decide),(md.free _ hmem hu).2.2.2]
  | true=>rw [if_pos rfl,hr.d _ hmem hu]
 refine ⟨g,kv (f' k),cur,rfl,hlt,h1,fun j u hj=>?_,by rw [hwd];exact q3 hkn⟩
 rw [hbk,bkP_cel] at hj
 have hj6:j<6:=(List.getElem?_eq_some_iff.1 hj).1
 rw [h3 k hkn j hj6];exact hj
theorem Both.blocks {F:Nat→Prop} {all:Nat} (h:Both W F P base v all K S) (hlo:3776<S.E) :
  Calls Tryz.prog 15 #[.pointer (some ⟨P,0,none⟩)] W fun e w'=>∃ g c,e=.returned (.slice (some ⟨g,0,none⟩) S.bs.length c)∧BkAt w' W.heap.size W.heap.size 53 (some ⟨g,0,none⟩) S∧W.grownBy w' none:=by
 obtain ⟨l,hs,hr⟩:=h.ex
 exact md_blocks hs.md hr h.hm hlo
theorem Both.rblocks {F:Nat→Prop} {all:Nat} (h:Both W F P base v all K S) (hK:K≤1000000) :
  Calls Tryz.prog 27 #[v] W fun e w'=>∃ a c,e=.returned (.slice a S.bs.length c)∧BkAt w' W.heap.size base 83 a S∧W.grownBy w' none:=by
 obtain ⟨l,hs,hr⟩:=h.ex
 have hM:=h.hm
 have hfew:=hM.hs.few
 have hoff:∀ b∈S.bs,b.off<1000000:=fun b hb=>by
  have h1:=hM.hs.q.mem hb
  have h2:=hM.hs.q.top
  omega
 refine (rblocks14 hs.st (by omega) (Nat.le_trans hM.dn hK) h.bw hoff).mono ?_
 rintro e w1 ⟨v',l',rfl,ho,hb,hd,hg⟩
 have hlen:l'.length=S.bs.length:=by rw [← hb,List.length_map]
 obtain ⟨a,c,hv⟩:=ho.form
 rw [hlen] at hv
 subst hv
 refine ⟨a,c,rfl,⟨fun k hkn=>?_⟩,hg⟩
 have hkl:k<l'.length:=by omega
 have hbk:S.bs.getD k default=(l'.getD k default).b:=by
  rw [← hb,List.getD_eq_getElem?_getD,List.getElem?_map,List.getD_eq_getElem?_getD,List.getElem?_eq_getElem hkl];rfl
 have hmem:l'.getD k default∈l':=by rw [List.getD_eq_getElem?_getD,List.getElem?_eq_getElem hkl];exact List.getElem_mem hkl
 have hwd:wdL S k=(l'.getD k default).d:=by
  unfold wdL
  rw [hbk,hd _ hmem]
 rcases ho.1.2 with ⟨k1,k2⟩|⟨g,cap,cur,k1,k2,k3,k4,k5,k6,k7⟩
 ·omega
 ·injection k1 with k1 _ _
  refine ⟨g,kv (l'.getD k default),cur,k1,k2,k3,fun j u hj=>?_,by rw [hwd];exact ho.2 _ hmem⟩
  rw [hbk,bkP_cel] at hj
  have hj6:j<6:=(List.getElem?_eq_some_iff.1 hj).1
  have hat:=Yez l' k j hkl hj6
  rw [hj,← k7,List.getElem?_take_of_lt (by omega),Array.getElem?_toList] at hat
  exact hat
end
end
end Go.Proofs.YtfhiljglfhekdaaGreat
