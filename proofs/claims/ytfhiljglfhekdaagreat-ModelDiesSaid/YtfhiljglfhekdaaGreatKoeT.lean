/-
  Texts of one layer, one behind the other: memory, contracts of the functions, and what follows of them.
  Conditions: as each theorem says.
-/
import Derived.Test.YtfhiljglfhekdaaGreatLKcj
import Derived.Test.YtfhiljglfhekdaaGreatLMpb
set_option linter.unusedVariables false
set_option linter.unusedSimpArgs false
set_option maxRecDepth 100000
namespace Go.Proofs.YtfhiljglfhekdaaGreat
open Go.RowKit
section
def OkT (w:World) (g:Nat):Prop:=(∃ es clock,w.heap[g]?=some (.map es clock))∨∃ c t fr,w.heap[g]?=some (.cells c t fr)∧(t=53∨t=26∨t=91)
def trimF (w:World) (F:Nat→Prop):Nat→Prop:=fun g=>F g∧OkT w g
section
variable {w w':World} {F F':Nat→Prop} {P all base:Nat} {l:List KB} {ns:List (ByteArray × Nat)} {lv:Nat→Bool} {v:Value} {S:MS}
theorem Md.trim (h:Md w F P all l ns lv):Md w (trimF w F) P all l ns lv:=by
 obtain ⟨g,cap,f,M,h1,h2,h3,h4,h5,h6⟩:=h.ex
 obtain ⟨cur,hc,_⟩:=h1.row.blk
 refine ⟨⟨g,cap,f,M,h1,h2,h3,⟨h4,.inr ⟨_,_,_,hc,.inl rfl⟩⟩,⟨h5,.inl h6.blk⟩,h6⟩,h.own,h.nod,fun q hq=>⟨h.dF q hq,?_⟩,h.free,⟨h.pF,.inr ⟨_,_,_,h1.box,.inr (.inr rfl)⟩⟩,fun q hq=>h.lt q hq.1⟩
 obtain ⟨x,hx,hk⟩:=dats_mem.1 hq
 obtain ⟨c,hc⟩:=Ycn (h.own x hx) hk
 exact .inr ⟨_,_,_,hc,.inr (.inl rfl)⟩
theorem row_out {e:TypeId} {size n:Nat} {xs:List Value} {p:Nat→Prop} (h:w.ownsRow base e size v n xs) (hp:∀ g,p g→OkT w g) (h1:e≠53) (h2:e≠26) (h3:e≠91):∀ g,v.ownBlock=some g→¬ p g:=fun g hg hpg=>by
 rcases h.2 with ⟨rfl,_⟩|⟨q,cap,cur,rfl,_,hgg,_⟩
 ·cases hg
 ·injection hg with hg
  subst hg
  rcases hp _ hpg with ⟨es,clock,hm⟩|⟨c,t,fr,hm,ht⟩
  ·rw [hgg] at hm;cases hm
  ·rw [hgg] at hm
   injection hm with hm
   injection hm with _ hm _
   subst hm
   rcases ht with h|h|h
   ·exact h1 h
   ·exact h2 h
   ·exact h3 h
theorem row_lt {e:TypeId} {size n:Nat} {xs:List Value} (h:w.ownsRow base e size v n xs):∀ g,v.ownBlock=some g→g<w.heap.size:=fun g hg=>by
 rcases h.2 with ⟨rfl,_⟩|⟨q,cap,cur,rfl,_,hgg,_⟩
 ·cases hg
 ·injection hg with hg
  subst hg
  exact lt_of_block hgg
theorem KF.turned {xs:List Nat} (h:KF w F base v xs) (ht:Ybo F w w'):KF w' (growF F w w') base v xs :=
 ⟨Yd2 h.1 ht h.2,fun g hg hF=>by
  rcases hF with k|k
  ·exact h.2 g hg k
  ·have:=row_lt h.1 g hg;omega⟩
theorem StIs.turned (h:StIs w F base v all S) (hF:∀ g,F g→OkT w g) (ht:Ybo F w w'):StIs w' (growF F w w') base v all S:=by
 obtain ⟨la,n,c,va,ln,vc,da,dn,dc,na,nn,nc,lD,e,hb,hl,hd,hp,hn,hf⟩:=h
 refine ⟨la,n,c,va,ln,vc,da,dn,dc,na,nn,nc,lD,e,Yd2 hb ht (row_out hb hF (by decide) (by decide) (by decide)),fun k hk=>(hl k hk).turned ht,⟨Yd2 hd.1 ht (row_out hd.1 hF (by decide) (by decide) (by decide)),fun t htm=>Yd2 (hd.2 t htm) ht (hf t htm)⟩,hp,Yd2 hn ht (row_out hn hF (by decide) (by decide) (by decide)),fun t htm g hg hk=>?_⟩
 rcases hk with k|k
 ·exact hf t htm g hg k
 ·have:=row_lt (hd.2 t htm) g hg;omega
theorem StIs.less (h:StIs w F base v all S) (hF:∀ g,F' g→F g):StIs w F' base v all S:=by
 obtain ⟨la,n,c,va,ln,vc,da,dn,dc,na,nn,nc,lD,e,hb,hl,hd,hp,hn,hf⟩:=h
 exact ⟨la,n,c,va,ln,vc,da,dn,dc,na,nn,nc,lD,e,hb,fun k hk=>⟨(hl k hk).1,fun g hg h=>(hl k hk).2 g hg (hF g h)⟩,hd,hp,hn,fun t htm g hg h=>hf t htm g hg (hF g h)⟩
theorem OkT.later {g:Nat} (h:OkT w g) (hg:w.grownBy w' none):OkT w' g:=by
 rcases h with ⟨es,clock,h⟩|⟨c,t,fr,h,ht⟩
 ·exact .inl ⟨es,clock,(hg.block _ (lt_of_block h) (by simp)).trans h⟩
 ·exact .inr ⟨c,t,fr,(hg.block _ (lt_of_block h) (by simp)).trans h,ht⟩
structure Side (w:World) (F:Nat→Prop) (P base:Nat) (v:Value) (all:Nat) (l:List KB) (ns:List (ByteArray × Nat)) (lv:Nat→Bool) (S:MS):Prop where
 md:Md w F P all l ns lv
 st:StIs w F base v all S
 ok:∀ g,F g→OkT w g
theorem Side.code {l':List KB} {ns':List (ByteArray × Nat)} {lv':Nat→Bool} (h:Side w F P base v all l ns lv S) (hR:MdR w w' F P all l' ns' lv'):Side w' (trimF w' (growF F w w')) P base v all l' ns' lv' S :=
 ⟨hR.1.trim,(h.st.turned h.ok hR.2).less (fun g hg=>hg.1),fun g hg=>hg.2⟩
theorem Side.plain {v':Value} {S':MS} (h:Side w F P base v all l ns lv S) (hg:w.grownBy w' none) (hs:StIs w' F base v' all S'):Side w' F P base v' all l ns lv S' :=
 ⟨h.md.later hg,hs,fun g hF=>(h.ok g hF).later hg⟩
end
end
end Go.Proofs.YtfhiljglfhekdaaGreat
