/-
  Texts of one layer, one behind the other: memory, contracts of the functions, and what follows of them.
  Conditions: as each theorem says.
-/
import Derived.Test.YtfhiljglfhekdaaGreatLCla
import Derived.Test.YtfhiljglfhekdaaGreatLTxa
import Derived.Test.YtfhiljglfhekdaaGreatLDia
import Derived.Test.YtfhiljglfhekdaaGreatLTaa
import Derived.StillTailTactics
import Derived.Deep.RegionHeld3
import Derived.Deep.QuietTactic
import Derived.BigQuiet
import Derived.Laws.StructEq
import Derived.Deep.AppendLies
import Derived.Laws.AppendOwnNone
import Derived.RangeFuncCalls
import Derived.TacticsInMore
import Derived.OrdersIn
import Derived.Test.YtfhiljglfhekdaaGreatLSea
import Derived.Deep.LoopGhost
import Derived.Test.YtfhiljglfhekdaaGreatResB
import Derived.Deep.MidRow
import Derived.Laws.Rows
set_option linter.unusedVariables false
set_option linter.unusedSimpArgs false
set_option maxRecDepth 100000
namespace Go.Proofs.YtfhiljglfhekdaaGreat
open Go.RowKit
section
def datL (ds:List (Nat × List Nat)) (p:Nat):List Nat:=match ds.find? (fun t=>t.1 == p) with|some t=>t.2|none=>[]
def drpL (ds:List (Nat × List Nat)) (p:Nat):List (Nat × List Nat):=ds.filter fun t=>decide (t.1≠p)
def putL (ds:List (Nat × List Nat)) (p:Nat) (d:List Nat):List (Nat × List Nat):=drpL ds p++[(p,d)]
def sizN (d:List Nat) (n:Nat):List Nat:=(List.range n).map fun i=>d.getD i 0
theorem sizN_snoc (d:List Nat) (n:Nat):sizN d (n+1)=sizN d n++[d.getD n 0]:=by unfold sizN;rw [List.range_succ,List.map_append];rfl
theorem sizN_len (d:List Nat) (n:Nat):(sizN d n).length=n:=by simp [sizN]
theorem drpL_len (ds:List (Nat × List Nat)) (p:Nat):(drpL ds p).length≤ds.length:=List.length_filter_le _ _
theorem putL_len (ds:List (Nat × List Nat)) (p:Nat) (d:List Nat):(putL ds p d).length≤ds.length+1:=by
 unfold putL
 rw [List.length_append]
 have:=drpL_len ds p
 simp only [List.length_cons,List.length_nil]
 omega
theorem Yc8 (ds:List (Nat × List Nat)) (p q:Nat):datL (drpL ds p) q=if q=p then [] else datL ds q:=by
 unfold datL drpL
 induction ds with
 | nil=>simp
 | cons t r ih =>
  by_cases h1:t.1=p
  ·rw [List.filter_cons_of_neg (by simp [h1]),ih]
   by_cases h2:q=p
   ·rw [if_pos h2,if_pos h2]
   ·rw [if_neg h2,if_neg h2,List.find?_cons_of_neg (by simp;omega)]
  ·rw [List.filter_cons_of_pos (by simp [h1])]
   by_cases h3:t.1=q
   ·rw [List.find?_cons_of_pos (by simp [h3]),List.find?_cons_of_pos (by simp [h3]),if_neg (by omega)]
   ·rw [List.find?_cons_of_neg (by simp [h3]),List.find?_cons_of_neg (by simp [h3]),ih]
theorem Ycr (ds:List (Nat × List Nat)) (p q:Nat) (d:List Nat):datL (putL ds p d) q=if q=p then d else datL ds q:=by
 have h:=Yc8 ds p q
 unfold datL putL at *
 rw [List.find?_append]
 by_cases hq:q=p
 ·subst hq
  rw [if_pos rfl] at h ⊢
  have hn:(drpL ds q).find? (fun t=>t.1 == q)=none:=by
   rw [List.find?_eq_none]
   intro t ht
   unfold drpL at ht
   have:=(List.mem_filter.1 ht).2
   simpa using this
  rw [hn]
  simp
 ·rw [if_neg hq] at h ⊢
  cases e:(drpL ds p).find? (fun t=>t.1 == q) with
  | some t=>rw [e] at h;simpa using h
  | none =>
   rw [e] at h
   rw [List.find?_cons_of_neg (by simp;omega)]
   simpa using h
def Ye0 (l:List (Nat × Value × List Nat)):List Value:=l.flatMap fun t=>[.int .u64 (t.1:Nat),t.2.1]
def keyD (l:List (Nat × Value × List Nat)) (k:Nat):Nat:=(l.getD k (0,.slice none 0 0,[])).1
def rowD (l:List (Nat × Value × List Nat)) (k:Nat):Value:=(l.getD k (0,.slice none 0 0,[])).2.1
theorem cellsD_app (a b:List (Nat × Value × List Nat)):Ye0 (a++b)=Ye0 a++Ye0 b:=by simp [Ye0,List.flatMap_append]
theorem cellsD_len (l:List (Nat × Value × List Nat)):(Ye0 l).length=l.length*2:=by
 induction l with
 | nil=>rfl
 | cons p r ih =>
  have e:Ye0 (p::r)=.int .u64 (p.1:Nat)::p.2.1::Ye0 r:=rfl
  rw [e,List.length_cons,List.length_cons,ih,List.length_cons]
  omega
theorem cellsD_at (l:List (Nat × Value × List Nat)) (k:Nat) (h:k<l.length):(Ye0 l)[k*2]?=some (.int .u64 (keyD l k:Nat))∧(Ye0 l)[k*2+1]?=some (rowD l k):=by
 induction l generalizing k with
 | nil=>exact absurd h (Nat.not_lt_zero _)
 | cons p r ih =>
  have e:Ye0 (p::r)=.int .u64 (p.1:Nat)::p.2.1::Ye0 r:=rfl
  rw [e]
  rcases k with _|k
  ·exact ⟨rfl,rfl⟩
  ·have:=ih k (by simpa using h)
   rw [show (k+1)*2=k*2+1+1 by omega,List.getElem?_cons_succ,List.getElem?_cons_succ,List.getElem?_cons_succ,List.getElem?_cons_succ]
   exact this
def OwnD (w:World) (bo bi:Nat) (v:Value) (l:List (Nat × Value × List Nat)):Prop:=w.ownsRow bo 134 2 v l.length (Ye0 l)∧∀ t∈l,OwnW w bi t.2.1 t.2.2
def Yc6 (l:List (Nat × Value × List Nat)):List (Nat × List Nat):=l.map fun t=>(t.1,t.2.2)
section
variable {w w':World} {bo bi bo' bi':Nat} {v:Value} {l:List (Nat × Value × List Nat)}
theorem OwnD.later (h:OwnD w bo bi v l) (hg:w.grownBy w' none):OwnD w' bo bi v l:=⟨Ydm h.1 hg,fun t ht=>(h.2 t ht).later hg⟩
theorem OwnD.mono (h:OwnD w bo bi v l) (h1:bo'≤bo) (h2:bi'≤bi):OwnD w bo' bi' v l:=⟨World.ownsRow.mono h.1 h1,fun t ht=>(h.2 t ht).mono h2⟩
theorem OwnD.form (h:OwnD w bo bi v l):∃ a c,v=.slice a l.length c:=by
 rcases h.1.2 with ⟨h1,h2⟩|⟨g,cap,cur,hv,_⟩
 ·exact ⟨none,0,by rw [h1,h2]⟩
 ·exact ⟨_,cap,hv⟩
theorem OwnD.new {g:Nat} (h:OwnD w bo bi v l) (hg:v.ownBlock=some g):bo≤g:=(World.ownsRow.lt h.1 g hg).1
theorem OwnD.addr (h:OwnD w bo bi v l):∃ a c g,v=.slice a l.length c∧(0<l.length→a=some ⟨g,0,none⟩) ∧
  ∀ w',w.grownBy w' none→∀ k,k<l.length→w'.cell? ⟨g,k*2,none⟩=some (.int .u64 (keyD l k:Nat))∧w'.cell? ⟨g,k*2+1,none⟩=some (rowD l k):=by
 rcases h.1.2 with ⟨h1,h2⟩|⟨g,cap,cur,hv,_⟩
 ·exact ⟨none,0,0,by rw [h1,h2],fun h=>by omega,fun w' _ j hj=>by omega⟩
 ·refine ⟨_,cap,g,hv,fun _=>rfl,fun w' hg k hk=>?_⟩
  have h':=(h.later hg).1
  rw [hv] at h'
  have hl:=cellsD_len l
  have c0:=World.ownsRow.cellAt h' (k*2) (by omega)
  have c1:=World.ownsRow.cellAt h' (k*2+1) (by omega)
  obtain ⟨e0,e1⟩:=cellsD_at l k hk
  exact ⟨c0.trans e0,c1.trans e1⟩
theorem OwnD.row (h:OwnD w bo bi v l) {k:Nat} (hk:k<l.length):∃ a n c,rowD l k=.slice a n c∧(l.getD k (0,.slice none 0 0,[]))∈l:=by
 have hm:l.getD k (0,.slice none 0 0,[])∈l:=by rw [List.getD_eq_getElem?_getD,List.getElem?_eq_getElem hk];exact List.getElem_mem hk
 obtain ⟨a,n,c,hv⟩:=wv_form (h.2 _ hm)
 exact ⟨a,n,c,hv,hm⟩
end
theorem own_row64 {v:Value} {base:Nat} {A:World} {xs:List Nat} {g:Nat} (h:OwnW A base v xs) (hg:v.ownBlock=some g):base≤g∧g<A.heap.size∧∃ c fr,A.heap[g]?=some (.cells c 26 fr):=by
 obtain ⟨_,cur,hb⟩:=Yct h hg
 exact ⟨(World.ownsRow.lt h g hg).1,(World.ownsRow.lt h g hg).2,cur,_,hb⟩
theorem info_wds:(Tryz.prog.info? 134).map (fun i=>(i.zero,i.size,i.bytes))=some (some (.agg #[.int .u64 0,.slice none 0 0]),2,32):=by kernel_rfl
theorem Yen {w2:World} {bo bi:Nat} {l:List (Nat × Value × List Nat)} {v:Value} (hown:OwnD w2 bo bi v l) (hn:l.length≤1000000) (hbase:bo≤w2.heap.size) (y:Nat) (da:Option Addr) (dn dc:Nat) {d:List Nat} (hd:OwnW w2 bi (.slice da dn dc) d)
  {ops:Array Oper} {rest:List Oper} {o:Oper} {a:Act} {Q:Exit→Act→World→Prop} (hgd:o.guard=none) (s x:Operand)
  (ho:o.op=.call { callee:=.builtin .append,args:=#[s,x],argTypes:=#[32,32] })
  (hs:a.eval s=v) (hx:a.eval x=.slice (some ⟨w2.heap.size,0,none⟩) 1 1)
  (h:∀ v' w',OwnD w' bo bi v' (l++[(y,.slice da dn dc,d)])→w2.grownBy w' v.ownBlock→wpList Tryz.prog ops Q rest (a.put o.dst v') w') :
  wpList Tryz.prog ops Q (o::rest) a (w2.alloc (.cells #[.int .u64 (y:Nat),.slice da dn dc] 134)):=by
 obtain ⟨i0,hi,hz0,hz1,hz2⟩:=info_parts info_wds
 refine wpList_append_own_at _ hgd s x 32 ho bo 134 i0 (.agg #[.int .u64 0,.slice none 0 0]) 2 32 Tryz.underlying32 hi hz0 hz1 hz2 rfl (by decide) v l.length (Ye0 l) hs (World.ownsRow.alloc hown.1 _) ⟨w2.heap.size,0,none⟩ 1 1 [.int .u64 (y:Nat),.slice da dn dc] hx rfl (cells_two_new _ _ _ _) (by simp [Value.oneCell']) (by unfold maxLen;omega) (by omega) (by rw [World.size_alloc];omega) fun v' w' h1 h2 _ h4=>?_
 have hg2:w2.grownBy w' v.ownBlock:=Yaa (World.grownBy_alloc _ _ _) h2
 have hkeep:∀ {u:Value} {xs:List Nat},OwnW w2 bi u xs→OwnW w' bi u xs:=fun {u xs} hu=>by
  refine World.ownsRow.kept hu hg2 ?_
  by_cases e:u.ownBlock=none
  ·exact .inl e
  ·refine .inr fun e2=>?_
   obtain ⟨g,hg⟩:=Option.ne_none_iff_exists'.1 e
   obtain ⟨_,_,c,fr,hb⟩:=own_row64 hu hg
   rw [e2] at hg
   obtain ⟨_,cur,hb2⟩:=Yct hown.1 hg
   rw [hb2] at hb
   injection hb with hb
   injection hb with _ hb _
   exact absurd hb (by decide)
 refine h v' w' ⟨?_,fun t ht=>?_⟩ hg2
 ·rw [cellsD_app,List.length_append]
  exact h1
 ·rcases List.mem_append.1 ht with ht|ht
  ·exact hkeep (hown.2 t ht)
  ·rw [List.mem_singleton.1 ht];exact hkeep hd
theorem rwithout14 {w:World} {la:Option Addr} {n c:Nat} {xs:List Nat} (h:Yb1 w la xs) (hn:xs.length=n) (hl:n≤1000000) (y:Nat) :
  Calls Tryz.prog 109 #[.slice la n c,.int .u64 y] w fun e w'=>∃ v,e=.returned v∧OwnW w' w.heap.size v (xs.filter fun a=>decide (a≠y))∧w.grownBy w' none:=by
 have HN:=Lib.hid hn
 have HW:=Lib.hid h
 obtain ⟨ys,hys⟩:∃ ys,(xs.filter fun a=>decide (a≠y))=ys:=⟨_,rfl⟩
 rw [hys]
 have HY:=Lib.hid hys
 clear h hys
 go_enter Tryz.func109,Tryz.ntmps109
 go_wp2
 go_loopw [5,6] (fun v i wr=>∃ k:Nat,k≤n∧i=.int .i64 k∧OwnW wr w.heap.size v ((xs.take k).filter fun a=>decide (a≠y))∧w.grownBy wr none) (fun _ i _=>n - (intOf i).toNat)
 case atStart=>exact ⟨0,Nat.zero_le _,rfl,World.ownsRow_nil _ _ _ _,Yag _ _⟩
 case round =>
  obtain ⟨k,hk,rfl,hown,hgr⟩:=hrel
  by_cases h1:k<n
  ·have h1':(k:Int)<(n:Int):=by omega
   obtain ⟨b,off,rfl,hb,hcs⟩:=(HW.out.later hgr).cells (by rw [HN.out];omega)
   have c0:=hcs k (by rw [HN.out];exact h1)
   obtain ⟨x,hx⟩:∃ x,xs.getD k 0=x:=⟨_,rfl⟩
   rw [hx] at c0
   have hst:=take_less (y:=y) (by rw [HN.out];exact h1) hx
   have HS:=Lib.hid hst
   have hfl:((xs.take k).filter fun a=>decide (a≠y)).length≤1000000:=Nat.le_trans (List.length_filter_le _ _) (by rw [List.length_take];omega)
   have hsz:=hgr.size
   have HF:=Lib.hid hfl
   have HO:=Lib.hid hown
   clear hcs hx hst hfl
   by_cases hxy:x=y
   ·subst hxy
    clear hown
    go_wp2
    go_roundw
    case rel=>exact ⟨k+1,by omega,by go_num,by rw [HS.out,if_pos rfl,List.append_nil];exact HO.out,hgr⟩
    case measure=>simp [intOf];omega
   ·have hxy':¬ (x:Int)=(y:Int):=by omega
    clear hown
    go_wp2_with (at_builtin;go_must (refine Yce rfl _ _ rfl w.heap.size _ _ rfl HO.out x rfl (Nat.le_trans HF.out (by decide)) hsz ?_);intro v8 w8 hown8 hg8 hloc8)
    go_roundw
    case rel=>exact ⟨k+1,by omega,by go_num,by rw [HS.out,if_neg hxy];exact hown8,Yaj hgr hg8 (fun i hi=>.inl (World.ownsRow.lt HO.out i hi).1)⟩
    case measure=>simp [intOf];omega
  ·obtain rfl:k=n:=by omega
   rw [← HN.out,List.take_length,HY.out] at hown
   obtain ⟨va,vn,vc,hv⟩:=wv_form hown
   subst hv
   have h1':¬ (k:Int)<(k:Int):=by omega
   go_wp2
   go_ret
   exact ⟨_,rfl,hown,hgr⟩
theorem rsized14 {w:World} {la:Option Addr} {m c:Nat} {d:List Nat} (h:Yb1 w la d) (hn:d.length=m) (hl:m≤1000000) (n:Nat) (hnl:n≤1000000) :
  Calls Tryz.prog 78 #[.slice la m c,.int .u64 n] w fun e w'=>∃ v,e=.returned v∧OwnW w' w.heap.size v (sizN d n)∧w.grownBy w' none:=by
 have HN:=Lib.hid hn
 have HW:=Lib.hid h
 have e0:IntKind.u64.wrap (m:Int)=(m:Int):=by rw [IntKind.wrap_u64];omega
 clear h hn
 go_enter Tryz.func78,Tryz.ntmps78
 go_wp2
 go_loopw [5,6] (fun v i wr=>∃ k:Nat,k≤n∧i=.int .u64 k∧OwnW wr w.heap.size v (sizN d k)∧w.grownBy wr none) (fun _ i _=>n - (intOf i).toNat)
 case atStart=>exact ⟨0,Nat.zero_le _,rfl,World.ownsRow_nil _ _ _ _,Yag _ _⟩
 case round =>
  obtain ⟨k,hk,rfl,hown,hgr⟩:=hrel
  by_cases h1:k<n
  ·have h1':(k:Int)<(n:Int):=by omega
   have hst:=sizN_snoc d k
   have hsl:=sizN_len d k
   have HS:=Lib.hid hst
   have HSL:=Lib.hid hsl
   have hsz:=hgr.size
   have HO:=Lib.hid hown
   have hk1:IntKind.u64.wrap ((k:Int)+1)=((k+1:Nat):Int):=by rw [IntKind.wrap_u64];omega
   clear hst hsl
   by_cases h2:k<m
   ·have h2':(k:Int)<(m:Int):=by omega
    obtain ⟨b,off,rfl,hb,hcs⟩:=(HW.out.later hgr).cells (by rw [HN.out];omega)
    have c0:=hcs k (by rw [HN.out];exact h2)
    obtain ⟨x,hx⟩:∃ x,d.getD k 0=x:=⟨_,rfl⟩
    rw [hx] at c0
    have HX:=Lib.hid hx
    clear hcs hx hown
    go_wp2_with (at_builtin;go_must (refine Yce rfl _ _ rfl w.heap.size _ _ rfl HO.out x rfl (by rw [HSL.out];omega) hsz ?_);intro v8 w8 hown8 hg8 hloc8)
    go_roundw
    case rel=>exact ⟨k+1,by omega,by go_num,by rw [HS.out,HX.out];exact hown8,Yaj hgr hg8 (fun i hi=>.inl (World.ownsRow.lt HO.out i hi).1)⟩
    case measure=>simp [intOf];omega
   ·have h2':¬ (k:Int)<(m:Int):=by omega
    have hx:d.getD k 0=0:=by rw [List.getD_eq_getElem?_getD,List.getElem?_eq_none (by rw [HN.out];omega)];rfl
    have HX:=Lib.hid hx
    clear hx hown
    go_wp2_with (at_builtin;go_must (refine Yce rfl _ _ rfl w.heap.size _ _ rfl HO.out 0 rfl (by rw [HSL.out];omega) hsz ?_);intro v8 w8 hown8 hg8 hloc8)
    go_roundw
    case rel=>exact ⟨k+1,by omega,by go_num,by rw [HS.out,HX.out];exact hown8,Yaj hgr hg8 (fun i hi=>.inl (World.ownsRow.lt HO.out i hi).1)⟩
    case measure=>simp [intOf];omega
  ·obtain rfl:k=n:=by omega
   obtain ⟨va,vn,vc,hv⟩:=wv_form hown
   subst hv
   have h1':¬ (k:Int)<(k:Int):=by omega
   go_wp2
   go_ret
   exact ⟨_,rfl,hown,hgr⟩
theorem take_lessD {l:List (Nat × Value × List Nat)} {k p:Nat} (hk:k<l.length):(l.take (k+1)).filter (fun t=>decide (t.1≠p))=(l.take k).filter (fun t=>decide (t.1≠p))++if keyD l k=p then [] else [l.getD k (0,.slice none 0 0,[])]:=by
 have h1:l.take (k+1)=l.take k++[l.getD k (0,.slice none 0 0,[])]:=by
  rw [List.take_add_one,List.getD_eq_getElem?_getD,List.getElem?_eq_getElem hk]
  rfl
 rw [h1,List.filter_append]
 congr 1
 unfold keyD
 by_cases e:(l.getD k (0,.slice none 0 0,[])).1=p
 ·rw [if_pos e,List.filter_cons_of_neg (by simpa using e)];rfl
 ·rw [if_neg e,List.filter_cons_of_pos (by simpa using e)];rfl
def drpD (l:List (Nat × Value × List Nat)) (p:Nat):List (Nat × Value × List Nat):=l.filter fun t=>decide (t.1≠p)
theorem drpD_plain (l:List (Nat × Value × List Nat)) (p:Nat):Yc6 (drpD l p)=drpL (Yc6 l) p:=by
 unfold Yc6 drpD drpL
 rw [List.filter_map]
 rfl
theorem rdrop14 {w:World} {bo bi:Nat} {v:Value} {l:List (Nat × Value × List Nat)} (h:OwnD w bo bi v l) (hl:l.length≤1000000) (p:Nat) :
  Calls Tryz.prog 71 #[v,.int .u64 p] w fun e w'=>∃ v',e=.returned v'∧OwnD w' w.heap.size bi v' (drpD l p)∧w.grownBy w' none:=by
 obtain ⟨a,c,g,rfl,ha,hcs⟩:=h.addr
 obtain ⟨n,hn⟩:∃ n,l.length=n:=⟨_,rfl⟩
 rw [hn] at hl ha hcs ⊢
 have HN:=Lib.hid hn
 have HW:=Lib.hid h
 have HA:=Lib.hid ha
 have HC:=Lib.hid hcs
 obtain ⟨ys,hys⟩:∃ ys,drpD l p=ys:=⟨_,rfl⟩
 rw [hys]
 have HY:=Lib.hid hys
 clear h hn ha hcs hys
 go_enter Tryz.func71,Tryz.ntmps71
 go_wp2
 go_loopw [5,6] (fun v i wr=>∃ k:Nat,k≤n∧i=.int .i64 k∧OwnD wr w.heap.size bi v (drpD (l.take k) p)∧w.grownBy wr none) (fun _ i _=>n - (intOf i).toNat)
 case atStart=>exact ⟨0,Nat.zero_le _,rfl,⟨World.ownsRow_nil _ _ _ _,fun t ht=>by simp [drpD] at ht⟩,Yag _ _⟩
 case round =>
  obtain ⟨k,hk,rfl,hown,hgr⟩:=hrel
  by_cases h1:k<n
  ·have h1':(k:Int)<(n:Int):=by omega
   obtain rfl:=HA.out (by omega)
   obtain ⟨c0,c1⟩:=HC.out wr hgr k h1
   have hkl:k<l.length:=by rw [HN.out];exact h1
   obtain ⟨da,dn,dc,hrw,hmem⟩:=HW.out.row hkl
   have hst:=take_lessD (p:=p) hkl
   have hrow:=(HW.out.2 _ hmem).later hgr
   rw [show (l.getD k (0,.slice none 0 0,[])).2.1=rowD l k from rfl] at hrow
   rw [hrw] at c1 hrow
   obtain ⟨x,hx⟩:∃ x,keyD l k=x:=⟨_,rfl⟩
   have hel:l.getD k (0,.slice none 0 0,[])=(x,.slice da dn dc,(l.getD k (0,.slice none 0 0,[])).2.2):=by rw [← hx,← hrw];rfl
   obtain ⟨dd,hdd⟩:∃ dd,(l.getD k (0,.slice none 0 0,[])).2.2=dd:=⟨_,rfl⟩
   rw [hdd] at hel hrow
   rw [hx,hel] at hst
   rw [hx] at c0
   have HS:=Lib.hid hst
   have hfl:(drpD (l.take k) p).length≤1000000:=Nat.le_trans (List.length_filter_le _ _) (by rw [List.length_take,HN.out];omega)
   have hsz:=hgr.size
   have HF:=Lib.hid hfl
   have HO:=Lib.hid hown
   have HR:=Lib.hid hrow
   clear hx hst hfl hel hrw hmem hkl hdd hrow
   by_cases hxy:x=p
   ·subst hxy
    clear hown
    go_wp2
    go_roundw
    case rel=>exact ⟨k+1,by omega,by go_num,by unfold drpD;rw [HS.out,if_pos rfl,List.append_nil];exact HO.out,hgr⟩
    case measure=>simp [intOf];omega
   ·have hxy':¬ (x:Int)=(p:Int):=by omega
    clear hown
    go_wp2_with (at_builtin;go_must (refine Yen HO.out HF.out hsz x da dn dc HR.out rfl _ _ rfl rfl rfl ?_);intro v8 w8 hown8 hg8)
    go_roundw
    case rel=>exact ⟨k+1,by omega,by go_num,by unfold drpD;rw [HS.out,if_neg hxy];exact hown8,Yaj hgr hg8 (fun i hi=>.inl (HO.out.new hi))⟩
    case measure=>simp [intOf];omega
  ·obtain rfl:k=n:=by omega
   rw [← HN.out,List.take_length,HY.out] at hown
   obtain ⟨va,vc,hv⟩:=hown.form
   obtain ⟨vn,evn⟩:∃ n,ys.length=n:=⟨_,rfl⟩
   rw [evn] at hv
   clear evn
   subst hv
   have h1':¬ (k:Int)<(k:Int):=by omega
   go_wp2
   go_ret
   exact ⟨_,rfl,hown,hgr⟩
theorem rput14 {w:World} {bo bi:Nat} {v:Value} {l:List (Nat × Value × List Nat)} (h:OwnD w bo bi v l) (hl:l.length≤1000000) (p:Nat) {da:Option Addr} {dn dc:Nat} {d:List Nat} (hd:OwnW w bi (.slice da dn dc) d) :
  Calls Tryz.prog 77 #[v,.int .u64 p,.slice da dn dc] w fun e w'=>∃ v',e=.returned v'∧OwnD w' w.heap.size bi v' (drpD l p++[(p,.slice da dn dc,d)])∧w.grownBy w' none:=by
 have hdr:=rdrop14 h hl p
 obtain ⟨a,c,hv⟩:=h.form
 obtain ⟨n,hn⟩:∃ n,l.length=n:=⟨_,rfl⟩
 rw [hn] at hv
 subst hv
 have hlen:(drpD l p).length≤1000000:=Nat.le_trans (List.length_filter_le _ _) hl
 obtain ⟨ys,hys⟩:∃ ys,drpD l p=ys:=⟨_,rfl⟩
 rw [hys] at hdr hlen ⊢
 obtain ⟨m,hm⟩:∃ m,ys.length=m:=⟨_,rfl⟩
 have HM:=Lib.hid hm
 have HD:=Lib.hid hd
 have HL:=Lib.hid hlen
 clear hys h hl hn hm hd hlen
 go_enter Tryz.func77,Tryz.ntmps77
 go_wp2_with (first
  | (go_at_call 71;(with_reducible refine hdr.mono ?_);rintro e w1 ⟨v1,rfl,ho1,hg1⟩;obtain ⟨va,vc,hv1⟩:=ho1.form;rw [HM.out] at hv1;subst hv1)
  | (at_builtin;go_must (refine Yen ho1 HL.out hg1.size p da dn dc (HD.out.later hg1) rfl _ _ rfl rfl rfl ?_);intro v8 w8 hown8 hg8;obtain ⟨ua,uc,hv8⟩:=hown8.form;obtain ⟨um,hum⟩:∃ n,(ys++[(p,Value.slice da dn dc,d)]).length=n:=⟨_,rfl⟩;rw [hum] at hv8;subst hv8))
 go_ret
 exact ⟨_,rfl,hown8,Yaj hg1 hg8 (fun i hi=>.inl (ho1.new hi))⟩
end
section
def KF (w:World) (F:Nat→Prop) (base:Nat) (v:Value) (xs:List Nat):Prop:=OwnW w base v xs∧∀ g,v.ownBlock=some g→¬ F g
theorem KF.later {w w':World} {F:Nat→Prop} {base:Nat} {v:Value} {xs:List Nat} (h:KF w F base v xs) (hg:w.grownBy w' none):KF w' F base v xs:=⟨h.1.later hg,h.2⟩
def HvF (w:World) (F:Nat→Prop) (base:Nat) (v:Value) (E:Nat) (bs:List Blk) (L:Nat→List Nat):Prop :=
 ∃ b vs,v=Ya1 E b vs∧OwnB w base 81 b bs∧∀ c,c<8→KF w F base (vs c) (L c)
section
variable {w w':World} {F0:Nat→Prop} {E n a i base m k p owner:Nat} {bs:List Blk} {L:Nat→List Nat} {v:Value} {la:Option Addr}
theorem HvF.is (h:HvF w F0 base v E bs L):HvIs w base v E bs L:=by
 obtain ⟨b,vs,h1,h2,h3⟩:=h
 exact ⟨⟨b,vs,h1,h2,fun c hc=>(h3 c hc).1⟩⟩
theorem HvF.later (h:HvF w F0 base v E bs L) (hg:w.grownBy w' none):HvF w' F0 base v E bs L:=by
 obtain ⟨b,vs,h1,h2,h3⟩:=h
 exact ⟨b,vs,h1,h2.later hg,fun c hc=>(h3 c hc).later hg⟩
theorem HvF.other {b:Nat} {c:Array Value} {t:TypeId} (h:HvF w F0 base v E bs L) (hb:w.heap[b]?=some (.cells c t (0,0))) (h1:t≠81) (h2:t≠26) (hg:w.grownBy w' (some b)):HvF w' F0 base v E bs L:=by
 obtain ⟨bl,vs,q1,q2,q3⟩:=h
 exact ⟨bl,vs,q1,own_other q2 hb h1 hg,fun c hc=>⟨own_other (q3 c hc).1 hb h2 hg,(q3 c hc).2⟩⟩
theorem HvF.lie (h:HvF w F0 base v E bs L):∃ (la:Option Addr) (n c:Nat) (va:Nat→Option Addr) (ln vc:Nat→Nat),v=Ya1 E (.slice la n c) (fun c=>.slice (va c) (ln c) (vc c))∧bs.length=n:=by
 obtain ⟨b,vs,rfl,h2,h3⟩:=h
 obtain ⟨la,c,rfl,_⟩:=h2.at_
 obtain ⟨va,ln,vc,e,_⟩:=Ydi (E:=E) (b:=.slice la bs.length c) fun c hc=>(h3 c hc).1
 exact ⟨la,_,c,va,ln,vc,e,rfl⟩
theorem HvF.of_rows {V:World} {F0:Nat→Prop} {v':Value} {bs':List Blk} {L':Nat→List Nat} (hv:HvF V F0 base v E bs L) (h1:HvIs w' base v' E bs' L') (hrw:Yc9 v v' V.heap.size) (hR:∀ g,F0 g→g<V.heap.size):HvF w' F0 base v' E bs' L':=by
 obtain ⟨b0,vs0,e0,o0,k0⟩:=hv
 obtain ⟨b,vs,q1,q2,q3⟩:=h1.is
 obtain ⟨b',vs',q4,q5⟩:=hrw E b0 vs0 e0
 have q6:=(heapV_inj (q1.symm.trans q4)).2
 refine ⟨b,vs,q1,q2,fun c hc=>⟨q3 c hc,fun g hg e=>?_⟩⟩
 rw [q6 c hc] at hg
 rcases q5 c hc with h7|h7
 ·rw [h7] at hg
  exact (k0 c hc).2 g hg e
 ·have:=h7 g hg
  have:=hR g e
  omega
theorem HvF.swap {b b':Value} {vs:Nat→Value} {bs':List Blk} (hv:HvF w F0 base (Ya1 E b vs) E bs L) (ho:OwnB w base 81 b' bs'):HvF w F0 base (Ya1 E b' vs) E bs' L:=by
 obtain ⟨b0,vs0,e,_,k0⟩:=hv
 have q:=(heapV_inj e).2
 exact ⟨b',vs,rfl,ho,fun c hc=>by rw [q c hc];exact k0 c hc⟩
theorem tk_fineF {V:World} {F0:Nat→Prop} {K:Nat} (h:Fine K E bs L) (hK:K≤800) (hR:∀ g,F0 g→g<V.heap.size) (hv:HvF V F0 base v E bs L) (hb:base≤V.heap.size) (ha:Ybr a) (hn:n≤18446744073709551560) (how:owner≤8) :
  Calls Tryz.prog 76 #[v,.int .i64 owner,.int .u64 n,.int .u64 a] V fun e w'=>∃ v',e=.returned (.tuple #[v',.int .u64 (tkP bs n a:Nat),.int .i64 (tkE bs n a:Nat)])∧HvF w' F0 base v' E (tkB bs owner n a) (tkL bs L owner n a)∧V.grownBy w' none:=by
 have hal:=ha.le
 have h6:=h.few
 have hbd:=h.bounds
 have hl:=h.lists
 unfold tkP tkE tkB tkL
 cases hf:fitM bs n a with
 | some i =>
  obtain ⟨b0,vs0,e0,o0,k0⟩:=hv
  have hv8:HvIs V base v E bs (fun c=>if c<8 then L c else []) :=
   ⟨⟨b0,vs0,e0,o0,fun c hc=>by show OwnW V base (vs0 c) (if c<8 then L c else []);rw [if_pos hc];exact (k0 c hc).1⟩⟩
  refine (rtake10_ok hv8 hb (by omega) hbd ha hn how hf fun c=>?_).mono ?_
  ·show (if c<8 then L c else []).length≤1000
   by_cases hc:c<8
   ·rw [if_pos hc];have:=hl c hc;omega
   ·rw [if_neg hc];decide
  ·rintro e w' ⟨v',rfl,h1,hrw,hg⟩
   obtain ⟨b,vs,q1,q2,q3⟩:=h1.is
   obtain ⟨b',vs',q4,q5⟩:=hrw E b0 vs0 e0
   have q6:=(heapV_inj (q1.symm.trans q4)).2
   refine ⟨v',rfl,⟨b,vs,q1,q2,fun c hc=>⟨?_,fun g hg e=>?_⟩⟩,hg⟩
   ·have:=q3 c hc
    show OwnW w' base (vs c) (Ydl L owner (gO bs i+padN (gO bs i) a) c)
    unfold Ydl at this ⊢
    by_cases h0:owner=0
    ·rw [if_pos h0] at this ⊢
     simp only [hc,if_true] at this
     exact this
    ·rw [if_neg h0] at this ⊢
     unfold setL at this ⊢
     have ho8:owner - 1<8:=by omega
     simp only [hc,ho8,if_true] at this
     exact this
   ·rw [q6 c hc] at hg
    rcases q5 c hc with h7|h7
    ·rw [h7] at hg
     exact (k0 c hc).2 g hg e
    ·have:=h7 g hg
     have:=hR g e
     omega
 | none =>
  refine (rtake10_bad hv.is (by omega) hbd (by omega) (by omega) (by omega) (by omega) (fitErr_none ha hn hf) (by decide)).mono ?_
  rintro e w' ⟨rfl,hg⟩
  exact ⟨v,rfl,hv.later hg,hg⟩
theorem fr_fineF {V:World} {F0:Nat→Prop} {K:Nat} (h:Fine K E bs L) (hK:K≤800) (hR:∀ g,F0 g→g<V.heap.size) (hv:HvF V F0 base v E bs L) (hb:base≤V.heap.size) (p:Nat) :
  Calls Tryz.prog 70 #[v,.int .u64 p] V fun e w'=>∃ v',e=.returned (.tuple #[v',.int .i64 (frE bs p:Nat)])∧HvF w' F0 base v' E (frB bs p) (frL bs L p)∧V.grownBy w' none:=by
 have h6:=h.few
 have hbd:=h.bounds
 have hl:∀ c,c<8→(L c).length≤1000:=fun c hc=>by have:=h.lists c hc;omega
 unfold frE frB frL
 cases hf:fstN (pF p) bs with
 | none =>
  refine (rfree11_none hv.is (by omega) hf).mono ?_
  rintro e w' ⟨rfl,hg⟩
  exact ⟨v,rfl,hv.later hg,hg⟩
 | some i =>
  obtain ⟨hi,hu,_⟩:=pF_some hf
  have hm:=may_bounds (h.is _ (getB_mem hi)).1
  have hbs:=bs_amid hi
  dsimp only
  show Calls Tryz.prog 70 #[v,.int .u64 p] V fun e w'=>∃ v',e=.returned (.tuple #[v',.int .i64 0])∧HvF w' F0 base v' E (Ybs (bs.take i++Ya4 (bs.getD i default).off (bs.getD i default).s::bs.drop (i+1))) (lstB L (bs.getD i default))∧V.grownBy w' none
  have hti:(bs.take i).length=i:=by rw [List.length_take];omega
  have hv':=hv.is
  obtain ⟨b,hb'⟩:∃ b,bs.getD i default=b:=⟨_,rfl⟩
  obtain ⟨A,hA⟩:∃ A,bs.take i=A:=⟨_,rfl⟩
  obtain ⟨C,hC⟩:∃ C,bs.drop (i+1)=C:=⟨_,rfl⟩
  rw [hb',hA,hC] at hbs
  rw [hb'] at hm
  rw [hA] at hti
  rw [hb',hA,hC]
  rw [hbs] at h6 hbd hv' hf
  rw [← hti] at hf
  refine (rfree11_ok hv' hb (by omega) hbd hf hl ⟨hm.2.2.2.1,hm.2.2.2.2.1⟩).mono ?_
  rintro e w' ⟨v',rfl,h1,hrw,hg⟩
  exact ⟨v',rfl,hv.of_rows h1 hrw hR,hg⟩
theorem ct_fineF {V:World} {F0:Nat→Prop} {K:Nat} (h:Fine K E bs L) (hK:K≤800) (hR:∀ g,F0 g→g<V.heap.size) (hv:HvF V F0 base v E bs L) (hb:base≤V.heap.size) (p k:Nat) (hk64:k<18446744073709551616) :
  Calls Tryz.prog 108 #[v,.int .u64 p,.int .u64 k] V fun e w'=>∃ v',e=.returned (.tuple #[v',.int .i64 (ctE bs p k:Nat)])∧HvF w' F0 base v' E (ctB bs p k) L∧V.grownBy w' none:=by
 have h6:=h.few
 have hbd:=h.bounds
 unfold ctE ctB
 cases hf:fstN (pF p) bs with
 | none =>
  refine (rcut11_none hv.is (by omega) hf k).mono ?_
  rintro e w' ⟨rfl,hg⟩
  exact ⟨v,rfl,hv.later hg,hg⟩
 | some i =>
  obtain ⟨hi,hu,_⟩:=pF_some hf
  obtain ⟨_,_,hhi,hlen⟩:=h.is _ (getB_mem hi)
  replace hlen:=hlen hu
  have hlow:=h.low
  have hbs:=bs_amid hi
  dsimp only
  by_cases hk:cutOk (bs.getD i default) k
  ·rw [if_pos hk]
   by_cases hr:k+48≤gS bs i
   ·rw [if_pos ⟨hk,hr⟩]
    unfold gS at hr
    unfold gO gS gU gW gN
    have hti:(bs.take i).length=i:=by rw [List.length_take];omega
    have hv':=hv.is
    obtain ⟨b,hb'⟩:∃ b,bs.getD i default=b:=⟨_,rfl⟩
    obtain ⟨A,hA⟩:∃ A,bs.take i=A:=⟨_,rfl⟩
    obtain ⟨C,hC⟩:∃ C,bs.drop (i+1)=C:=⟨_,rfl⟩
    rw [hb',hA,hC] at hbs
    rw [hb'] at hk hr hlen hhi
    rw [hA] at hti
    rw [hb',hA,hC]
    rw [hbs] at h6 hbd hv' hf
    rw [← hti] at hf
    refine (rcut11_ok hv' hb (by omega) hbd hf (by omega) ⟨hk.1,hk.2.1,hr⟩).mono ?_
    rintro e w' ⟨v',rfl,h1,hrw,hg⟩
    exact ⟨v',rfl,hv.of_rows h1 hrw hR,hg⟩
   ·rw [if_neg fun h=>hr h.2]
    unfold gS at hr
    refine (rcut11_few hv.is (by omega) hf (by omega) (by omega) hk64 hk (by omega)).mono ?_
    rintro e w' ⟨rfl,hg⟩
    exact ⟨v,rfl,hv.later hg,hg⟩
  ·rw [if_neg hk,if_neg fun h=>hk h.1]
   refine (rcut11_bad hv.is (by omega) hf (by omega) (by omega) hk64 hk).mono ?_
   rintro e w' ⟨rfl,hg⟩
   exact ⟨v,rfl,hv.later hg,hg⟩
end
end
section
def ovr (cs:Array Value) (o:Nat):List Value→Array Value
 | []=>cs
 | v::r=>ovr (cs.setIfInBounds o v) (o+1) r
theorem ovr_at (vs:List Value):∀ (cs:Array Value) (o i:Nat),o+vs.length≤cs.size→(ovr cs o vs)[i]?=if o≤i∧i<o+vs.length then vs[i - o]? else cs[i]?:=by
 induction vs with
 | nil=>intro cs o i h;unfold ovr;rw [if_neg (fun h=>by have:=h.2;simp only [List.length_nil] at this;omega)]
 | cons v r ih =>
  intro cs o i h
  have hl:(v::r).length=r.length+1:=rfl
  unfold ovr
  rw [ih _ _ _ (by simp;omega)]
  by_cases h1:o+1≤i∧i<o+1+r.length
  ·rw [if_pos h1,if_pos (by omega),show i - o=(i - (o+1))+1 by omega,List.getElem?_cons_succ]
  ·rw [if_neg h1]
   by_cases h2:i=o
   ·subst h2
    rw [if_pos (by omega),Nat.sub_self,List.getElem?_cons_zero,Array.getElem?_setIfInBounds_self_of_lt (by omega)]
   ·rw [if_neg (by omega),Array.getElem?_setIfInBounds_ne (Ne.symm h2)]
theorem Yau (cs cs':Array Value) (h:cs'.size=cs.size):ovr cs 0 cs'.toList=cs':=by
 apply Array.ext_getElem?
 intro i
 rw [ovr_at _ _ _ _ (by simp;omega)]
 by_cases h1:i<cs'.size
 ·rw [if_pos (by simp;omega)];simp
 ·rw [if_neg (by simp;omega),Array.getElem?_eq_none (by omega),Array.getElem?_eq_none (by omega)]
section
variable {w w':World} {b o:Nat} {t:TypeId} {cs:Array Value}
theorem Yb7 {k:Nat} {v:Value} (h:w.heap[b]?=some (.cells cs t (0,0))):(w.setCell ⟨b,k,none⟩ v).heap[b]?=some (.cells (cs.setIfInBounds k v) t (0,0)):=by
 rw [Yar h v]
theorem setCells_heap:∀ (vs:List Value) (w:World) (cs:Array Value) (o:Nat),w.heap[b]?=some (.cells cs t (0,0))→(w.setCells b o vs).heap[b]?=some (.cells (ovr cs o vs) t (0,0))∧w.grownBy (w.setCells b o vs) (some b)
 | [],w,cs,o,h=>⟨h,Yam (Yag w none) _⟩
 | v::r,w,cs,o,h=>by
  obtain ⟨h1,h2⟩:=setCells_heap r _ _ (o+1) (Yb7 (k:=o) (v:=v) h)
  exact ⟨h1,Yaa (Yac _ _ _ _) h2⟩
theorem Yas {k:Nat} {v:Value} (h:w.heap[b]?=some (.cells cs t (0,0))) (hk:cs[k]?=some v):w.cell? ⟨b,k,none⟩=some v:=by
 simp [World.cell?,h,hk]
theorem Ydw (h:w.heap[b]?=some (.cells cs t (0,0))) (k:Nat):w.frozen? ⟨b,k,none⟩=false:=by simp [World.frozen?,h]
theorem one21 (hg:(w.alloc (.cells cs t)).grownBy w' none):w'.heap[w.heap.size]?=some (.cells cs t (0,0)):=by
 have h1:(w.alloc (.cells cs t)).heap[w.heap.size]?=some (.cells cs t (0,0)):=Yab _ _
 exact (hg.block _ (lt_of_block h1) (by simp)).trans h1
theorem Yad {ops:Array Oper} {rest:List Oper} {op:Oper} {a:Act} {Q:Exit→Act→World→Prop} (hgd:op.guard=none) (ty:TypeId) (x:Operand) (ho:op.op=.load ty x)
  (b o:Nat) (hx:a.eval x=.pointer (some ⟨b,o,none⟩)) {cs:Array Value} (hb:w.heap[b]?=some (.cells cs t (0,0))) (ps:Array Value) (hps:∀ j v,ps[j]?=some v→cs[o+j]?=some v) (d:TypeDesc)
  (hu:Tryz.prog.underlying ty=some d) (hd:d.isRow=true) (hi:(Tryz.prog.info? ty).map (·.size)=some ps.size)
  (h:wpList Tryz.prog ops Q rest (a.put op.dst (.agg ps)) w):wpList Tryz.prog ops Q (op::rest) a w:=by
 have hc:w.rangeAt b o ps.toList:=fun j v hj=>Yas hb (hps j v (by simpa using hj))
 refine wpList_load_mid hgd ty x ho b o hx ps.toList d hc hu hd (by simpa using hi) ?_
 simpa using h
theorem Yae {ops:Array Oper} {rest:List Oper} {op:Oper} {a:Act} {Q:Exit→Act→World→Prop} (hgd:op.guard=none) (ty:TypeId) (x y:Operand) (ho:op.op=.store ty x y)
  (b o:Nat) {ps cs:Array Value} (hx:a.eval x=.pointer (some ⟨b,o,none⟩)) (hy:a.eval y=.agg ps) (hb:w.heap[b]?=some (.cells cs t (0,0))) (hs:o+ps.size≤cs.size)
  (hi:(Tryz.prog.info? ty).map (·.size)=some ps.size) (h1:ps.all (·.oneCell')=true)
  (h:∀ w',w'.heap[b]?=some (.cells (ovr cs o ps.toList) t (0,0))→w.grownBy w' (some b)→wpList Tryz.prog ops Q rest (a.put op.dst undef) w'):wpList Tryz.prog ops Q (op::rest) a w:=by
 have ht:w.there b o ps.size:=fun j hj=>by
  have e:cs[o+j]?=some cs[o+j]:=Array.getElem?_eq_getElem (by omega)
  exact ⟨by rw [Yas hb e];rfl,Ydw hb _⟩
 refine wpList_store_mid hgd ty x y ho b o ps hx hy ht hi h1 ?_
 obtain ⟨q1,q2⟩:=setCells_heap (b:=b) ps.toList w cs o hb
 exact h _ q1 q2
end
theorem Yav {w:World} {fn:Func} {p q:Tmp} {ty ty2 t t2:TypeId} (h:fn.results=#[.cell p ty,.cell q ty2]) (tmps:Array Value) {g g2:Nat} {cs cs2:Array Value} {d d2:TypeDesc}
  (hp:tmps.getD p undef=.pointer (some ⟨g,0,none⟩)) (hq:tmps.getD q undef=.pointer (some ⟨g2,0,none⟩)) (hg:w.heap[g]?=some (.cells cs t (0,0))) (hg2:w.heap[g2]?=some (.cells cs2 t2 (0,0)))
  (hu:Tryz.prog.underlying ty=some d) (hd:d.isRow=true) (hi:(Tryz.prog.info? ty).map (·.size)=some cs.size)
  (hu2:Tryz.prog.underlying ty2=some d2) (hd2:d2.isRow=true) (hi2:(Tryz.prog.info? ty2).map (·.size)=some cs2.size) :
  (results fn tmps).run Tryz.prog w=.ok (.tuple #[.agg cs,.agg cs2]) w:=by
 have hp':tmps[p]?.getD undef=.pointer (some ⟨g,0,none⟩):=by simpa using hp
 have hq':tmps[q]?.getD undef=.pointer (some ⟨g2,0,none⟩):=by simpa using hq
 have l1:=run_loadVar_mid w g 0 ty cs.toList d (fun j v hj=>by rw [Nat.zero_add];exact Yas hg (by simpa using hj)) hu hd (by simpa using hi)
 have l2:=run_loadVar_mid w g2 0 ty2 cs2.toList d2 (fun j v hj=>by rw [Nat.zero_add];exact Yas hg2 (by simpa using hj)) hu2 hd2 (by simpa using hi2)
 rw [Array.toArray_toList] at l1 l2
 simp [results,h,hp',hq',asAddr,l1,l2]
theorem Ya0:(Tryz.prog.info? 46).map (·.size)=some 3:=by kernel_rfl
structure MS where
 E:Nat
 bs:List Blk
 L:Nat→List Nat
 ds:List (Nat × List Nat)
 nm:List (ByteArray × Nat)
 lv:Nat→Bool
def sC (all E:Nat) (la:Option Addr) (n c:Nat) (va:Nat→Option Addr) (ln vc:Nat→Nat) (da:Option Addr) (dn dc:Nat) (na:Option Addr) (nn nc:Nat) (lv:Nat→Bool):Array Value:=#[.int .u64 all,.int .u64 E,.slice la n c,.slice (va 0) (ln 0) (vc 0),.slice (va 1) (ln 1) (vc 1),.slice (va 2) (ln 2) (vc 2),.slice (va 3) (ln 3) (vc 3),.slice (va 4) (ln 4) (vc 4),.slice (va 5) (ln 5) (vc 5),.slice (va 6) (ln 6) (vc 6),.slice (va 7) (ln 7) (vc 7),.slice da dn dc,.slice na nn nc,.bool (lv 0),.bool (lv 1),.bool (lv 2),.bool (lv 3),.bool (lv 4),.bool (lv 5),.bool (lv 6),.bool (lv 7)]
def sZ:Array Value:=#[.int .u64 0,.int .u64 0,.slice none 0 0,.slice none 0 0,.slice none 0 0,.slice none 0 0,.slice none 0 0,.slice none 0 0,.slice none 0 0,.slice none 0 0,.slice none 0 0,.slice none 0 0,.slice none 0 0,.bool false,.bool false,.bool false,.bool false,.bool false,.bool false,.bool false,.bool false]
def hR (E:Nat) (la:Option Addr) (n c:Nat) (va:Nat→Option Addr) (ln vc:Nat→Nat):Array Value:=#[.int .u64 E,.slice la n c,.slice (va 0) (ln 0) (vc 0),.slice (va 1) (ln 1) (vc 1),.slice (va 2) (ln 2) (vc 2),.slice (va 3) (ln 3) (vc 3),.slice (va 4) (ln 4) (vc 4),.slice (va 5) (ln 5) (vc 5),.slice (va 6) (ln 6) (vc 6),.slice (va 7) (ln 7) (vc 7)]
def oth {α:Type} (f:Nat→α) (k:Nat) (x:α):Nat→α:=fun j=>if j=k then x else f j
theorem Yai:(Tryz.prog.info? 36).map (·.size)=some 21:=by kernel_rfl
theorem Ybc:(Tryz.prog.info? 31).map (·.size)=some 10:=by kernel_rfl
section
variable {all E:Nat} {la:Option Addr} {n c:Nat} {va:Nat→Option Addr} {ln vc:Nat→Nat} {da:Option Addr} {dn dc:Nat} {na:Option Addr} {nn nc:Nat} {lv:Nat→Bool} {E':Nat} {la':Option Addr} {n' c':Nat} {va':Nat→Option Addr} {ln' vc':Nat→Nat}
theorem sC_size:(sC all E la n c va ln vc da dn dc na nn nc lv).size=21:=rfl
theorem sC_one:(sC all E la n c va ln vc da dn dc na nn nc lv).all (·.oneCell')=true:=by simp [sC,hR,Value.oneCell']
theorem ovr_st:ovr sZ 0 (sC all E la n c va ln vc da dn dc na nn nc lv).toList=sC all E la n c va ln vc da dn dc na nn nc lv:=Yau _ _ rfl
theorem hR_one:(hR E la n c va ln vc).all (·.oneCell')=true:=by simp [sC,hR,Value.oneCell']
theorem hR_in:∀ j v,(hR E la n c va ln vc)[j]?=some v→(sC all E la n c va ln vc da dn dc na nn nc lv)[1+j]?=some v:=by
 intro j v hj
 have hlt:j<10:=(Array.getElem?_eq_some_iff.1 hj).1
 rcases (show j=0∨j=1∨j=2∨j=3∨j=4∨j=5∨j=6∨j=7∨j=8∨j=9 by omega) with rfl|rfl|rfl|rfl|rfl|rfl|rfl|rfl|rfl|rfl <;> exact hj
theorem sC_heap:ovr (sC all E la n c va ln vc da dn dc na nn nc lv) 1 (hR E' la' n' c' va' ln' vc').toList=sC all E' la' n' c' va' ln' vc' da dn dc na nn nc lv:=by
 apply Array.ext_getElem?
 intro i
 rw [ovr_at _ _ _ _ (show 1+10≤21 by omega)]
 by_cases h:i<21
 ·rcases (show i=0∨i=1∨i=2∨i=3∨i=4∨i=5∨i=6∨i=7∨i=8∨i=9∨i=10∨i=11∨i=12∨i=13∨i=14∨i=15∨i=16∨i=17∨i=18∨i=19∨i=20 by omega) with rfl|rfl|rfl|rfl|rfl|rfl|rfl|rfl|rfl|rfl|rfl|rfl|rfl|rfl|rfl|rfl|rfl|rfl|rfl|rfl|rfl <;> rfl
 ·rw [if_neg (by rw [show (hR E' la' n' c' va' ln' vc').toList.length=10 from rfl];omega),Array.getElem?_eq_none (by rw [sC_size];omega),Array.getElem?_eq_none (by rw [sC_size];omega)]
theorem sC_data {da':Option Addr} {dn' dc':Nat}:(sC all E la n c va ln vc da dn dc na nn nc lv).setIfInBounds 11 (.slice da' dn' dc')=sC all E la n c va ln vc da' dn' dc' na nn nc lv:=rfl
theorem sC_blks {la':Option Addr} {n' c':Nat}:(sC all E la n c va ln vc da dn dc na nn nc lv).setIfInBounds 2 (.slice la' n' c')=sC all E la' n' c' va ln vc da dn dc na nn nc lv:=rfl
theorem sC_list {k:Nat} (hk:k<8) {x:Option Addr} {y z:Nat}:(sC all E la n c va ln vc da dn dc na nn nc lv).setIfInBounds (3+k) (.slice x y z)=sC all E la n c (oth va k x) (oth ln k y) (oth vc k z) da dn dc na nn nc lv:=by
 rcases (show k=0∨k=1∨k=2∨k=3∨k=4∨k=5∨k=6∨k=7 by omega) with rfl|rfl|rfl|rfl|rfl|rfl|rfl|rfl <;> rfl
theorem sC_live {k:Nat} (hk:k<8) {x:Bool}:(sC all E la n c va ln vc da dn dc na nn nc lv).setIfInBounds (13+k) (.bool x)=sC all E la n c va ln vc da dn dc na nn nc (oth lv k x):=by
 rcases (show k=0∨k=1∨k=2∨k=3∨k=4∨k=5∨k=6∨k=7 by omega) with rfl|rfl|rfl|rfl|rfl|rfl|rfl|rfl <;> rfl
theorem Yer {k:Nat} (hk:k<8):(sC all E la n c va ln vc da dn dc na nn nc lv)[3+k]?=some (.slice (va k) (ln k) (vc k)):=by
 rcases (show k=0∨k=1∨k=2∨k=3∨k=4∨k=5∨k=6∨k=7 by omega) with rfl|rfl|rfl|rfl|rfl|rfl|rfl|rfl <;> rfl
theorem sC_at_live {k:Nat} (hk:k<8):(sC all E la n c va ln vc da dn dc na nn nc lv)[13+k]?=some (.bool (lv k)):=by
 rcases (show k=0∨k=1∨k=2∨k=3∨k=4∨k=5∨k=6∨k=7 by omega) with rfl|rfl|rfl|rfl|rfl|rfl|rfl|rfl <;> rfl
end
def StIs (w:World) (F:Nat→Prop) (base:Nat) (v:Value) (all:Nat) (S:MS):Prop :=
 ∃ la n c va ln vc da dn dc na nn nc lD,v=.agg (sC all S.E la n c va ln vc da dn dc na nn nc S.lv)∧OwnB w base 81 (.slice la n c) S.bs∧(∀ k,k<8→KF w F base (.slice (va k) (ln k) (vc k)) (S.L k))∧OwnD w base base (.slice da dn dc) lD∧Yc6 lD=S.ds∧OwnN w base 86 (.slice na nn nc) S.nm∧∀ t∈lD,∀ g,t.2.1.ownBlock=some g→¬ F g
section
variable {w w':World} {F:Nat→Prop} {base base':Nat} {v:Value} {all:Nat} {S:MS}
theorem StIs.later (h:StIs w F base v all S) (hg:w.grownBy w' none):StIs w' F base v all S:=by
 obtain ⟨la,n,c,va,ln,vc,da,dn,dc,na,nn,nc,lD,h1,h2,h3,h4,h5,h6,h7⟩:=h
 exact ⟨la,n,c,va,ln,vc,da,dn,dc,na,nn,nc,lD,h1,h2.later hg,fun k hk=>(h3 k hk).later hg,h4.later hg,h5,h6.later hg,h7⟩
theorem hv_of {la:Option Addr} {n c E:Nat} {va:Nat→Option Addr} {ln vc:Nat→Nat} {bs:List Blk} {L:Nat→List Nat} (h2:OwnB w base 81 (.slice la n c) bs) (h3:∀ k,k<8→KF w F base (.slice (va k) (ln k) (vc k)) (L k)):HvF w F base (.agg (hR E la n c va ln vc)) E bs L :=
 ⟨.slice la n c,fun k=>.slice (va k) (ln k) (vc k),rfl,h2,h3⟩
theorem hv_form {E:Nat} {bs:List Blk} {L:Nat→List Nat} (h:HvF w F base v E bs L):∃ la n c va ln vc,v=.agg (hR E la n c va ln vc)∧OwnB w base 81 (.slice la n c) bs∧∀ k,k<8→KF w F base (.slice (va k) (ln k) (vc k)) (L k):=by
 obtain ⟨b,vs,rfl,hb,hl0⟩:=h
 have key:∀ c,c<8→∃ q:Option Addr × Nat,vs c=.slice q.1 (L c).length q.2:=fun c hc=>by
  obtain ⟨a,cp,e,_⟩:=(hl0 c hc).1.lie
  exact ⟨(a,cp),e⟩
 obtain ⟨q,hq⟩:=Go.Deep.choose_lt (α:=Option Addr × Nat) (p:=fun c q=>vs c=.slice q.1 (L c).length q.2) key
 obtain ⟨la,c,rfl,_⟩:=hb.at_
 refine ⟨la,_,c,fun c=>(q c).1,fun c=>(L c).length,fun c=>(q c).2,?_,hb,fun c hc=>by rw [← hq c hc];exact hl0 c hc⟩
 unfold Ya1
 rw [hq 0 (by decide),hq 1 (by decide),hq 2 (by decide),hq 3 (by decide),hq 4 (by decide),hq 5 (by decide),hq 6 (by decide),hq 7 (by decide)]
 rfl
end
end
section
theorem datL_step {l:List (Nat × Value × List Nat)} {k p:Nat} (hk:k<l.length):datL (Yc6 (l.drop k)) p=if keyD l k=p then (l.getD k (0,.slice none 0 0,[])).2.2 else datL (Yc6 (l.drop (k+1))) p:=by
 have h1:l.drop k=l.getD k (0,.slice none 0 0,[])::l.drop (k+1):=by
  rw [List.drop_eq_getElem_cons hk,List.getD_eq_getElem?_getD,List.getElem?_eq_getElem hk]
  rfl
 rw [h1]
 unfold keyD datL Yc6
 rw [List.map_cons]
 by_cases e:(l.getD k (0,.slice none 0 0,[])).1=p
 ·rw [if_pos e,List.find?_cons_of_pos (by simpa using e)]
 ·rw [if_neg e,List.find?_cons_of_neg (by simpa using e)]
section
variable {w:World} {bo bi:Nat} {all E:Nat} {la:Option Addr} {n c:Nat} {va:Nat→Option Addr} {ln vc:Nat→Nat} {da:Option Addr} {dn dc:Nat} {na:Option Addr} {nn nc:Nat} {lv:Nat→Bool} {lD:List (Nat × Value × List Nat)}
theorem rdata14 (h:OwnD w bo bi (.slice da dn dc) lD) (hl:lD.length≤1000000) (p:Nat) :
  Calls Tryz.prog 54 #[.agg (sC all E la n c va ln vc da dn dc na nn nc lv),.int .u64 p] w fun e w'=>∃ a m k,e=.returned (.slice a m k)∧OwnW w' bi (.slice a m k) (datL (Yc6 lD) p)∧w.grownBy w' none:=by
 obtain ⟨a,c',g,hv,ha,hcs⟩:=h.addr
 obtain ⟨m,hm⟩:∃ m,lD.length=m:=⟨_,rfl⟩
 rw [hm] at hl ha hcs hv
 injection hv with e1 e2 e3
 subst e1 e2 e3
 have HN:=Lib.hid hm
 have HWd:=Lib.hid h
 have HA:=Lib.hid ha
 have HC:=Lib.hid hcs
 obtain ⟨r,hr⟩:∃ r,datL (Yc6 lD) p=r:=⟨_,rfl⟩
 rw [hr]
 have HR:=Lib.hid hr
 have hg0:=World.grownBy_alloc w (.cells (sC all E la n c va ln vc da dn dc na nn nc lv) 36) none
 have c11:(w.alloc (.cells (sC all E la n c va ln vc da dn dc na nn nc lv) 36)).cell? ⟨w.heap.size,11,none⟩=some (.slice da dn dc):=by
  exact Yas (one21 (Yag _ _)) rfl
 obtain ⟨W0,hW0⟩:∃ W0,w.alloc (.cells (sC all E la n c va ln vc da dn dc na nn nc lv) 36)=W0:=⟨_,rfl⟩
 rw [hW0] at hg0 c11
 have HG:=Lib.hid hg0
 clear h hm ha hcs hr hg0
 go_enter Tryz.func54,Tryz.ntmps54
 go_wp2
 clear hW0
 go_loopw [5] (fun i wr=>∃ k:Nat,k≤dn∧i=.int .i64 k∧W0=wr∧Hid (datL (Yc6 (lD.drop k)) p=r)) (fun i _=>dn - (intOf i).toNat)
 case atStart=>exact ⟨0,Nat.zero_le _,rfl,rfl,HR⟩
 case round =>
  obtain ⟨k,hk,rfl,rfl,HK⟩:=hrel
  by_cases h1:k<dn
  ·have h1':(k:Int)<(dn:Int):=by omega
   obtain rfl:=HA.out (by omega)
   obtain ⟨c0,c1⟩:=HC.out W0 HG.out k h1
   have hkl:k<lD.length:=by rw [HN.out];exact h1
   obtain ⟨ra,rn,rc,hrw,hmem⟩:=HWd.out.row hkl
   have hst:=datL_step (p:=p) hkl
   rw [HK.out] at hst
   have hrow:=(HWd.out.2 _ hmem).later HG.out
   rw [show (lD.getD k (0,.slice none 0 0,[])).2.1=rowD lD k from rfl] at hrow
   rw [hrw] at c1 hrow
   obtain ⟨x,hx⟩:∃ x,keyD lD k=x:=⟨_,rfl⟩
   rw [hx] at c0 hst
   obtain ⟨dd,hdd⟩:∃ dd,(lD.getD k (0,.slice none 0 0,[])).2.2=dd:=⟨_,rfl⟩
   rw [hdd] at hst hrow
   have HS:=Lib.hid hst
   have HR2:=Lib.hid hrow
   clear hst hrow hx hdd hrw hmem hkl
   by_cases hxy:x=p
   ·subst hxy
    go_wp2
    go_ret
    exact ⟨ra,rn,rc,rfl,by rw [HS.out,if_pos trivial];exact HR2.out,HG.out⟩
   ·have hxy':¬ (x:Int)=(p:Int):=by omega
    go_wp2
    go_roundw
    case rel=>exact ⟨k+1,by omega,by go_num,trivial,Lib.hid (by rw [HS.out,if_neg hxy])⟩
    case measure=>simp [intOf];omega
  ·obtain rfl:k=dn:=by omega
   have h1':¬ (k:Int)<(k:Int):=by omega
   have hr:=HK.out
   rw [List.drop_of_length_le (by rw [HN.out];exact Nat.le_refl _)] at hr
   have HR2:=Lib.hid hr
   clear hr
   go_wp2
   go_ret
   exact ⟨none,0,0,rfl,by rw [← HR2.out];exact World.ownsRow_nil _ _ _ _,HG.out⟩
def nmdL (nm:List (ByteArray × Nat)) (s:ByteArray) (p:Nat):Nat→Nat→Option Nat
 | 0,_=>none
 | n+1,k=>if entS nm k=s∨entO nm k=p then some k else nmdL nm s p n (k+1)
theorem nmdL_step {nm:List (ByteArray × Nat)} {s:ByteArray} {p m k:Nat} (hk:k<m):nmdL nm s p (m - k) k=if entS nm k=s∨entO nm k=p then some k else nmdL nm s p (m - (k+1)) (k+1):=by
 rw [show m - k=(m - (k+1))+1 by omega]
 rfl
def optM (o:Option Nat):Int:=match o with|some i=>(i:Int)|none => -1
theorem rnamed14 {nm:List (ByteArray × Nat)} (h:OwnN w bo 86 (.slice na nn nc) nm) (hl:nm.length≤1000000) (s:ByteArray) (p:Nat) :
  Calls Tryz.prog 81 #[.agg (sC all E la n c va ln vc da dn dc na nn nc lv),.string s,.int .u64 p] w fun e w'=>e=.returned (.int .i64 (optM (nmdL nm s p nm.length 0)))∧w.grownBy w' none:=by
 obtain ⟨a,c',g,hv,ha,hcs⟩:=h.addr
 obtain ⟨m,hm⟩:∃ m,nm.length=m:=⟨_,rfl⟩
 rw [hm] at hl ha hcs hv
 injection hv with e1 e2 e3
 subst e1 e2 e3
 rw [hm]
 have HN:=Lib.hid hm
 have hcs':=fun w' (hg:w.grownBy w' none)=>hcs w' (h.later hg)
 have HA:=Lib.hid ha
 have HC:=Lib.hid hcs'
 obtain ⟨r,hr⟩:∃ r,nmdL nm s p nn 0=r:=⟨_,rfl⟩
 rw [hr]
 have HR:=Lib.hid hr
 have hg0:=World.grownBy_alloc w (.cells (sC all E la n c va ln vc da dn dc na nn nc lv) 36) none
 have c12:(w.alloc (.cells (sC all E la n c va ln vc da dn dc na nn nc lv) 36)).cell? ⟨w.heap.size,12,none⟩=some (.slice na nn nc):=by
  exact Yas (one21 (Yag _ _)) rfl
 obtain ⟨W0,hW0⟩:∃ W0,w.alloc (.cells (sC all E la n c va ln vc da dn dc na nn nc lv) 36)=W0:=⟨_,rfl⟩
 rw [hW0] at hg0 c12
 have HG:=Lib.hid hg0
 clear h hm ha hcs hcs' hr hg0
 go_enter Tryz.func81,Tryz.ntmps81
 go_wp2
 clear hW0
 go_loopw [7] (fun i wr=>∃ k:Nat,k≤nn∧i=.int .i64 k∧W0=wr∧Hid (nmdL nm s p (nn - k) k=r)) (fun i _=>nn - (intOf i).toNat)
 case atStart=>exact ⟨0,Nat.zero_le _,rfl,rfl,HR⟩
 case round =>
  obtain ⟨k,hk,rfl,rfl,HK⟩:=hrel
  by_cases h1:k<nn
  ·have h1':(k:Int)<(nn:Int):=by omega
   obtain rfl:=HA.out (by omega)
   obtain ⟨c0,c1⟩:=HC.out W0 HG.out k h1
   have hst:=nmdL_step (nm:=nm) (s:=s) (p:=p) h1
   rw [HK.out] at hst
   obtain ⟨x,hx⟩:∃ x,entS nm k=x:=⟨_,rfl⟩
   obtain ⟨y,hy⟩:∃ x,entO nm k=x:=⟨_,rfl⟩
   rw [hx] at c0 hst
   rw [hy] at c1 hst
   have HS:=Lib.hid hst
   clear hst hx hy
   by_cases hxs:x=s
   ·subst hxs
    go_wp2
    go_ret
    exact ⟨by rw [HS.out,if_pos (.inl trivial)];rfl,HG.out⟩
   ·have hxs':¬ x.toList=s.toList:=fun h=>hxs (by rw [ByteArray.toList_eq,ByteArray.toList_eq] at h;exact ByteArray.ext (Array.ext' h))
    have hxb:(x.toList == s.toList)=false:=by simpa using hxs'
    by_cases hyp:y=p
    ·subst hyp
     go_wp2
     go_ret
     exact ⟨by rw [HS.out,if_pos (.inr trivial)];rfl,HG.out⟩
    ·have hyp':¬ (y:Int)=(p:Int):=by omega
     have hyb:((y:Int) == (p:Int))=false:=by simpa using hyp'
     have HE:=Lib.hid (HS.out.trans (if_neg (fun e=>by rcases e with e|e;exact hxs e;exact hyp e)))
     go_wp2
     go_roundw
     case rel=>exact ⟨k+1,by omega,by go_num,trivial,Lib.hid HE.out.symm⟩
     case measure=>simp [intOf];omega
  ·obtain rfl:k=nn:=by omega
   have h1':¬ (k:Int)<(k:Int):=by omega
   have hr:=HK.out
   rw [Nat.sub_self] at hr
   have HR2:=Lib.hid hr
   clear hr
   go_wp2
   go_ret
   exact ⟨by rw [← HR2.out];rfl,HG.out⟩
end
end
end Go.Proofs.YtfhiljglfhekdaaGreat
