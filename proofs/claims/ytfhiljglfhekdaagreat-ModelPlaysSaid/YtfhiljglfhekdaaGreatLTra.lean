/-
  Texts of one layer, one behind the other: memory, contracts of the functions, and what follows of them.
  Conditions: as each theorem says.
-/
import Derived.Test.YtfhiljglfhekdaaGreatLSea
import Derived.Laws.AppendOwnNone
import Derived.Test.YtfhiljglfhekdaaGreatLWoa
import Derived.Laws.StructEq
import Derived.Deep.AppendLies
import Derived.Test.YtfhiljglfhekdaaGreatLTxa
import Derived.StillTailTactics
import Derived.BigQuiet
import Derived.Test.YtfhiljglfhekdaaGreatLTaa
import Derived.Deep.RegionHeld3
import Derived.Deep.QuietTactic
import Derived.RangeFuncCalls
import Derived.TacticsInMore
import Derived.OrdersIn
import Derived.Deep.LoopGhost
import Derived.Maps.AppendAt
set_option linter.unusedVariables false
set_option linter.unusedSimpArgs false
set_option maxRecDepth 100000
namespace Go.Proofs.YtfhiljglfhekdaaGreat
open Go.RowKit
section
structure Yb1 (w:World) (la:Option Addr) (l:List Nat):Prop where
 cells:0<l.length→∃ b off,la=some ⟨b,off,none⟩∧b<w.heap.size∧∀ i,i<l.length→w.cell? ⟨b,off+i,none⟩=some (.int .u64 (l.getD i 0:Nat))
section
variable {w w':World} {la:Option Addr} {l:List Nat} {base:Nat} {v:Value}
theorem Yb1.later (h:Yb1 w la l) (hg:w.grownBy w' none):Yb1 w' la l where
 cells:=fun hn=>by
  obtain ⟨b,off,h1,h2,h3⟩:=h.cells hn
  exact ⟨b,off,h1,Nat.lt_of_lt_of_le h2 hg.size,fun i hi=>(World.cell?_of_block (w:=w) (a:=⟨b,off+i,none⟩) (hg.block b h2 (by simp))).trans (h3 i hi)⟩
theorem OwnW.lie (h:OwnW w base v l):∃ la c,v=.slice la l.length c∧Yb1 w la l:=by
 rcases h.2 with ⟨h1,h2⟩|⟨g,cap,cur,hv,hb⟩
 ·exact ⟨none,0,by rw [h1,h2],⟨fun hn=>by omega⟩⟩
 ·subst hv
  refine ⟨_,_,rfl,⟨fun _=>⟨g,0,rfl,(h.lt g rfl).2,fun i hi=>?_⟩⟩⟩
  rw [Nat.zero_add]
  exact OwnW.at_ h i hi
theorem Yb1.take (h:Yb1 w la l) (n:Nat):Yb1 w la (l.take n) where
 cells:=fun hn=>by
  rw [List.length_take] at hn
  obtain ⟨b,off,h1,h2,h3⟩:=h.cells (by omega)
  refine ⟨b,off,h1,h2,fun i hi=>?_⟩
  rw [List.length_take] at hi
  rw [h3 i (by omega),List.getD_eq_getElem?_getD,List.getD_eq_getElem?_getD,List.getElem?_take,if_pos (by omega)]
end
end
section
theorem run_append_null {P:Program} {w:World} (base:Nat) (t ty e:TypeId) (i:TypeInfo) (size c:Nat) (ht:P.underlying t=some (.slice e)) (hi:P.info? e=some i)
  (v:Value) (n:Nat) (xs:List Value) (hown:w.ownsRow base e size v n xs) :
  (Builtin.append_ #[t,t] ty #[v,.slice none 0 c]).run P w=.ok v w:=by
 rcases hown.2 with ⟨rfl,rfl⟩|⟨g,cap,cur,rfl,_,_,hnc,_⟩
 ·simp [Builtin.append_,run_underlying ht,sizeOf,typeInfo,hi,Builtin.lenOf,Builtin.firstCells]
 ·simp [Builtin.append_,run_underlying ht,sizeOf,typeInfo,hi,Builtin.lenOf,Builtin.firstCells,hnc,storeCells]
set_option maxHeartbeats 1000000 in
theorem Yd7 {w2:World} {base c:Nat} {v:Value} {xs ys:List Nat} {la:Option Addr} (hown:OwnW w2 base v xs) (hp:Yb1 w2 la ys) (hm:xs.length+ys.length≤1000000) (hbase:base≤w2.heap.size)
  {ops:Array Oper} {rest:List Oper} {o:Oper} {a:Act} {Q:Exit→Act→World→Prop} (hgd:o.guard=none) (s x:Operand)
  (ho:o.op=.call { callee:=.builtin .append,args:=#[s,x],argTypes:=#[28,28] })
  (hs:a.eval s=v) (hx:a.eval x=.slice la ys.length c)
  (h:∀ v' w',OwnW w' base v' (xs++ys)→w2.grownBy w' v.ownBlock→wpList Tryz.prog ops Q rest (a.put o.dst v') w') :
  wpList Tryz.prog ops Q (o::rest) a w2:=by
 obtain ⟨i0,hi,hz0,hz1,hz2⟩:=info_parts info_u64
 have hlen:(Ybi ys).length=ys.length*1:=by simp [Ybi]
 have hfin:∀ v' w',w'.ownsRow base 26 1 v' (xs.length+ys.length) (Ybi xs++Ybi ys)→OwnW w' base v' (xs++ys):=fun v' w' h=>by
  unfold OwnW
  rw [List.length_append]
  simpa [Ybi] using h
 rcases la with _|ad
 ·have hm0:ys=[]:=by
   rcases Nat.eq_zero_or_pos ys.length with h0|h0
   ·exact List.length_eq_zero_iff.1 h0
   ·obtain ⟨b,off,hb,_⟩:=hp.cells h0
    cases hb
  subst hm0
  refine wpList_plain hgd fun K hK=>?_
  have hrun:=run_append_null (P:=Tryz.prog) (w:=w2) base 28 o.type 26 i0 1 c Tryz.underlying28 hi v xs.length (Ybi xs) hown
  unfold Oper.wp
  simp only [List.length_nil] at hx
  simp [execOp,ho,resolve,invoke,builtin,hs,hx,hrun,Result.andThen]
  exact hK _ _ (h v w2 (by simpa using hown) (Yag _ _))
 ·refine wpList_append_own _ hgd s x 28 ho base 26 i0 (.int .u64 0) 1 8 Tryz.underlying28 hi hz0 hz1 hz2 rfl (by decide) v xs.length (Ybi xs) hs hown ad ys.length c (Ybi ys) hx hlen ?_ ?_ (by unfold maxLen;omega) (by omega) hbase fun v' w' h1 h2 _=>h v' w' (hfin v' w' h1) h2
  ·intro j u hj
   have hjm:j<ys.length:=by
    rcases Nat.lt_or_ge j ys.length with h'|h'
    ·exact h'
    ·rw [List.getElem?_eq_none (by rw [hlen];omega)] at hj;cases hj
   obtain ⟨b,off,hb,_,hcs⟩:=hp.cells (by omega)
   injection hb with hb
   subst hb
   have hadd:(⟨b,off,none⟩:Addr).add j=⟨b,off+j,none⟩:=by unfold Addr.add;split <;> simp_all
   rw [hadd,hcs j hjm,← hj]
   simp [Ybi,List.getElem?_eq_getElem hjm]
  ·intro u hu
   simp only [Ybi,List.mem_map] at hu
   obtain ⟨y,_,rfl⟩:=hu
   rfl
end
section
theorem Yce {w2:World} {ops:Array Oper} {rest:List Oper} {o:Oper} {a:Act} {Q:Exit→Act→World→Prop} (hgd:o.guard=none) (s x:Operand)
  (ho:o.op=.call { callee:=.builtin .append,args:=#[s,x],argTypes:=#[28,28] })
  (base:Nat) (v:Value) (xs:List Nat) (hs:a.eval s=v) (hown:OwnW w2 base v xs) (y:Nat)
  (hx:a.eval x=.slice (some ⟨w2.heap.size,0,none⟩) 1 1) (hn:xs.length≤10000000) (hbase:base≤w2.heap.size)
  (h:∀ v' w',OwnW w' base v' (xs++[y])→w2.grownBy w' v.ownBlock→(v'.ownBlock=v.ownBlock∨v'.ownBlock=some (w2.heap.size+1))→wpList Tryz.prog ops Q rest (a.put o.dst v') w') :
  wpList Tryz.prog ops Q (o::rest) a (w2.alloc (.cells #[.int .u64 (y:Nat)] 26)):=by
 obtain ⟨i0,hi,hz0,hz1,hz2⟩:=info_parts info_u64
 refine wpList_append_own_at _ hgd s x 28 ho base 26 i0 (.int .u64 0) 1 8 Tryz.underlying28 hi hz0 hz1 hz2 rfl (by decide) v xs.length (Ybi xs) hs (World.ownsRow.alloc hown _) ⟨w2.heap.size,0,none⟩ 1 1 [.int .u64 (y:Nat)] hx rfl (cell_one_new _ _ _) (by simp [Value.oneCell']) (by unfold maxLen;omega) (by omega) (by rw [World.size_alloc];omega) fun v' w' h1 h2 _ h4=>h v' w' ?_ (Yaa (Yam (World.grownBy_alloc _ _ none) _) h2) (by rw [World.size_alloc] at h4;exact h4)
 unfold OwnW
 have e1:Ybi (xs++[y])=Ybi xs++[.int .u64 (y:Nat)]:=by simp [Ybi]
 rw [e1,List.length_append]
 exact h1
section
variable {w:World} {base:Nat} {wv pv:Value} {ws:List Nat} {l:List (Nat × Nat)}
end
end
end Go.Proofs.YtfhiljglfhekdaaGreat
