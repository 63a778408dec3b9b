/-
  Texts of one layer, one behind the other: memory, contracts of the functions, and what follows of them.
  Conditions: as each theorem says.
-/
import Derived.Test.YtfhiljglfhekdaaGreatLSea
import Derived.Shelf.RegionOpen
import Derived.Deep.QuietTactic
import Derived.BigQuiet
import Derived.Deep.LoopGhost
import Derived.Deep.RegionHeld3
import Derived.Test.YtfhiljglfhekdaaGreatLHea
import Derived.RangeFuncBox
import Derived.StillTailTactics
import Derived.Laws.StructEq
import Derived.Deep.AppendLies
import Derived.Laws.AppendOwnNone
import Derived.Test.YtfhiljglfhekdaaGreatLTxa
import Derived.RangeFuncCalls
import Derived.TacticsInMore
import Derived.OrdersIn
import Derived.Test.YtfhiljglfhekdaaGreatLTra
import Derived.Maps.AppendAt
import Derived.Test.YtfhiljglfhekdaaGreatLTaa
import Derived.Test.YtfhiljglfhekdaaGreatLPha
import Derived.Sort.Grow
import Derived.Test.YtfhiljglfhekdaaGreatRows
import Derived.Lib.SmallJoins
import Derived.Deep.SlicePairs
import Derived.ProofKit
import Derived.OpenShut
import Derived.Carry
import Derived.ChangeOld
import Derived.SizedLaws
set_option linter.unusedVariables false
set_option linter.unusedSimpArgs false
set_option maxRecDepth 100000
namespace Go.Proofs.YtfhiljglfhekdaaGreat
open Go.RowKit
section
def setL (L:Nat→List Nat) (c:Nat) (xs:List Nat):Nat→List Nat:=fun d=>if d=c then xs else L d
theorem Yeq (L:Nat→List Nat) (c:Nat) (xs:List Nat):setL L c xs c=xs:=if_pos rfl
theorem Yd1 {L:Nat→List Nat} {c d:Nat} (xs:List Nat) (h:d≠c):setL L c xs d=L d:=if_neg h
section
variable {U:List Nat} {f g:Nat→Nat} {L:Nat→List Nat} {c off:Nat}
end
end
section
open Go.RowKit Go.Shelf
attribute [local go_sem] Oper.semAt_some
theorem info_int:(Tryz.prog.info? 3).map (fun i=>(i.zero,i.size,i.bytes))=some (some (.int .i64 0),1,8):=by kernel_rfl
def cellsI (l:List Nat):List Value:=l.map fun x=>.int .i64 (x:Nat)
def OwnI (w:World) (base:Nat) (v:Value) (xs:List Nat):Prop:=w.ownsRow base 3 1 v xs.length (cellsI xs)
theorem OwnI.later {w w':World} {base:Nat} {v:Value} {xs:List Nat} (h:OwnI w base v xs) (hg:w.grownBy w' none):OwnI w' base v xs:=Ydm h hg
theorem OwnI.mono {w:World} {base base':Nat} {v:Value} {xs:List Nat} (h:OwnI w base v xs) (hb:base'≤base):OwnI w base' v xs:=World.ownsRow.mono h hb
theorem OwnI.at_ {w:World} {base g c:Nat} {ws:List Nat} (h:OwnI w base (.slice (some ⟨g,0,none⟩) ws.length c) ws) (j:Nat) (hj:j<ws.length):w.cell? ⟨g,j,none⟩=some (.int .i64 (ws.getD j 0:Nat)):=by
 have:=World.ownsRow.cellAt h j (by omega)
 rw [this]
 simp [cellsI,List.getElem?_eq_getElem hj]
theorem OwnI.addr {w:World} {base:Nat} {v:Value} {ws:List Nat} (h:OwnI w base v ws):∃ a c g,v=.slice a ws.length c∧(0<ws.length→a=some ⟨g,0,none⟩)∧∀ w',OwnI w' base v ws→∀ j,j<ws.length→w'.cell? ⟨g,j,none⟩=some (.int .i64 (ws.getD j 0:Nat)):=by
 rcases h.2 with ⟨h1,h2⟩|⟨g,cap,cur,hv,_⟩
 ·exact ⟨none,0,0,by rw [h1,h2],fun h=>by omega,fun w' _ j hj=>by omega⟩
 ·exact ⟨_,cap,g,hv,fun _=>rfl,fun w' h' j hj=>by rw [hv] at h';exact OwnI.at_ h' j hj⟩
theorem iv_form {w:World} {base:Nat} {v:Value} {xs:List Nat} (h:OwnI w base v xs):∃ a n c,v=.slice a n c:=by
 obtain ⟨a,c,g,h,_⟩:=h.addr
 exact ⟨a,_,c,h⟩
theorem OwnI.snoc {w:World} {base:Nat} {v:Value} {xs:List Nat} {y:Nat} (h:w.ownsRow base 3 1 v (xs.length+1) (cellsI xs++[.int .i64 (y:Nat)])):OwnI w base v (xs++[y]):=by
 unfold OwnI
 have e1:cellsI (xs++[y])=cellsI xs++[.int .i64 (y:Nat)]:=by simp [cellsI]
 rw [e1,List.length_append]
 exact h
theorem own_int {base:Nat} {A:World} {v:Value} {xs:List Nat} {g:Nat} (h:OwnI A base v xs) (hg:v.ownBlock=some g):base≤g∧g<A.heap.size∧∃ c fr,A.heap[g]?=some (.cells c 3 fr):=by
 obtain ⟨_,cur,hb⟩:=Yct h hg
 exact ⟨(World.ownsRow.lt h g hg).1,(World.ownsRow.lt h g hg).2,cur,_,hb⟩
section
variable {w:World} {T M:Nat} {R:Option Nat} {B D:Nat} {ws:List Nat} {l:List (Nat × Nat)}
end
end
section
theorem take_less {L:List Nat} {k y x:Nat} (hk:k<L.length) (hx:L.getD k 0=x):(L.take (k+1)).filter (fun a=>decide (a≠y))=(L.take k).filter (fun a=>decide (a≠y))++if x=y then [] else [x]:=by
 have h1:L.take (k+1)=L.take k++[x]:=by
  rw [List.take_add_one,← hx,List.getD_eq_getElem?_getD,List.getElem?_eq_getElem hk]
  rfl
 rw [h1,List.filter_append]
 congr 1
 by_cases e:x=y
 ·rw [if_pos e];simp [e]
 ·rw [if_neg e];simp [e]
set_option maxHeartbeats 2000000 in
theorem rwithout_any {w:World} {la:Option Addr} {n c:Nat} {xs:List Nat} (h:Yb1 w la xs) (hn:xs.length=n) (hl:n≤1000000) (y:Nat) :
  Calls Tryz.prog 101 #[.slice la n c,.int .u64 y] w fun e w'=>∃ v,e=.returned v∧OwnW w' w.heap.size v (xs.filter fun a=>decide (a≠y))∧w.grownBy w' none:=by
 have HN:=Lib.hid hn
 have HW:=Lib.hid h
 obtain ⟨ys,hys⟩:∃ ys,(xs.filter fun a=>decide (a≠y))=ys:=⟨_,rfl⟩
 rw [hys]
 have HY:=Lib.hid hys
 clear h hys
 go_enter Tryz.func101,Tryz.ntmps101
 go_wp2
 go_loopw [5,6] (fun v i wr=>∃ k:Nat,k≤n∧i=.int .i64 k∧OwnW wr w.heap.size v ((xs.take k).filter fun a=>decide (a≠y))∧w.grownBy wr none) (fun _ i _=>n - (intOf i).toNat)
 case atStart=>exact ⟨0,Nat.zero_le _,rfl,World.ownsRow_nil _ _ _ _,Yag _ _⟩
 case round =>
  obtain ⟨k,hk,rfl,hown,hgr⟩:=hrel
  by_cases h1:k<n
  ·have h1':(k:Int)<(n:Int):=by omega
   obtain ⟨b,off,rfl,hb,hcs⟩:=(HW.out.later hgr).cells (by rw [HN.out];omega)
   have c0:=hcs k (by rw [HN.out];exact h1)
   obtain ⟨x,hx⟩:∃ x,xs.getD k 0=x:=⟨_,rfl⟩
   rw [hx] at c0
   have hst:=take_less (y:=y) (by rw [HN.out];exact h1) hx
   have HS:=Lib.hid hst
   have hfl:((xs.take k).filter fun a=>decide (a≠y)).length≤1000000:=Nat.le_trans (List.length_filter_le _ _) (by rw [List.length_take];omega)
   have hsz:=hgr.size
   have HF:=Lib.hid hfl
   have HO:=Lib.hid hown
   clear hcs hx hst hfl
   by_cases hxy:x=y
   ·subst hxy
    clear hown
    go_wp2
    go_roundw
    case rel=>exact ⟨k+1,by omega,by go_num,by rw [HS.out,if_pos rfl,List.append_nil];exact HO.out,hgr⟩
    case measure=>simp [intOf];omega
   ·have hxy':¬ (x:Int)=(y:Int):=by omega
    clear hown
    go_wp2_with (at_builtin;go_must (refine Yce rfl _ _ rfl w.heap.size _ _ rfl HO.out x rfl (Nat.le_trans HF.out (by decide)) hsz ?_);intro v8 w8 hown8 hg8 hloc8)
    go_roundw
    case rel=>exact ⟨k+1,by omega,by go_num,by rw [HS.out,if_neg hxy];exact hown8,Yaj hgr hg8 (fun i hi=>.inl (World.ownsRow.lt HO.out i hi).1)⟩
    case measure=>simp [intOf];omega
  ·obtain rfl:k=n:=by omega
   rw [← HN.out,List.take_length,HY.out] at hown
   obtain ⟨va,vn,vc,hv⟩:=wv_form hown
   subst hv
   have h1':¬ (k:Int)<(k:Int):=by omega
   go_wp2
   go_ret
   exact ⟨_,rfl,hown,hgr⟩
set_option maxHeartbeats 1000000 in
theorem rfirst_any {w:World} {la:Option Addr} {n c:Nat} {xs:List Nat} (h:Yb1 w la xs) (hn:xs.length=n) (hl:n≤100000) (y:Nat) :
  Calls Tryz.prog 107 #[.slice la n c,.int .u64 y] w fun e w'=>∃ v,e=.returned v∧OwnW w' w.heap.size v (y::xs)∧w.grownBy w' none:=by
 have hg0:w.grownBy (w.alloc (.cells #[.int .u64 (y:Nat)] 26)) none:=World.grownBy_alloc _ _ _
 have hown0:OwnW (w.alloc (.cells #[.int .u64 (y:Nat)] 26)) w.heap.size (.slice (some ⟨w.heap.size,0,none⟩) 1 1) [y]:=World.ownsRow_lit (base:=w.heap.size) (e:=26) (size:=1) w #[.int .u64 (y:Nat)] 1 (Nat.le_refl _) (by decide) rfl
 have hsz:=hg0.size
 have HW:=Lib.hid (h.later hg0)
 subst hn
 clear h
 go_enter Tryz.func107,Tryz.ntmps107
 go_wp2_with (at_builtin;go_must (refine Yd7 hown0 HW.out (by simp;omega) hsz rfl _ _ rfl rfl rfl ?_);intro v' w1 hown1 hg1)
 obtain ⟨va,vn,vc,hv⟩:=wv_form hown1
 subst hv
 go_ret
 exact ⟨_,rfl,hown1,Yaj hg0 hg1 (fun i hi=>.inl (World.ownsRow.lt hown0 i hi).1)⟩
end
section
theorem Yeo {w2:World} {ops:Array Oper} {rest:List Oper} {o:Oper} {a:Act} {Q:Exit→Act→World→Prop} (hgd:o.guard=none) (s x:Operand)
  (ho:o.op=.call { callee:=.builtin .append,args:=#[s,x],argTypes:=#[63,63] })
  (base:Nat) (v:Value) (xs:List Nat) (hs:a.eval s=v) (hown:OwnI w2 base v xs) (y:Nat)
  (hx:a.eval x=.slice (some ⟨w2.heap.size,0,none⟩) 1 1) (hn:xs.length≤10000000) (hbase:base≤w2.heap.size)
  (h:∀ v' w',OwnI w' base v' (xs++[y])→w2.grownBy w' v.ownBlock→wpList Tryz.prog ops Q rest (a.put o.dst v') w') :
  wpList Tryz.prog ops Q (o::rest) a (w2.alloc (.cells #[.int .i64 (y:Nat)] 3)):=by
 obtain ⟨i0,hi,hz0,hz1,hz2⟩:=info_parts info_int
 exact wpList_append_own_at _ hgd s x 63 ho base 3 i0 (.int .i64 0) 1 8 Tryz.underlying63 hi hz0 hz1 hz2 rfl (by decide) v xs.length (cellsI xs) hs (World.ownsRow.alloc hown _) ⟨w2.heap.size,0,none⟩ 1 1 [.int .i64 (y:Nat)] hx rfl (cell_one_new _ _ _) (by simp [Value.oneCell']) (by unfold maxLen;omega) (by omega) (by rw [World.size_alloc];omega) fun v' w' h1 h2 _ h4=>h v' w' (OwnI.snoc h1) (Yaa (Yam (World.grownBy_alloc _ _ none) _) h2)
section
variable {w:World} {base:Nat} {wv pv:Value} {ws:List Nat} {l:List (Nat × Nat)}
end
end
section
section
variable {w0 w:World} {T off m k:Nat} {R:Option Nat} {U:List Nat} {tg:Nat→Nat} {L:Nat→List Nat} {la:Option Addr}
end
theorem hn1 (x0 x1:Nat) (h:x0≠x1) (d:Nat) (_:d<8):x1 ∉ setL (fun _=>[]) 1 [x0] d:=by
 unfold setL
 split
 ·simp;exact fun e=>h e.symm
 ·simp
end
end Go.Proofs.YtfhiljglfhekdaaGreat
