/-
  Texts of one layer, one behind the other: memory, contracts of the functions, and what follows of them.
  Conditions: as each theorem says.
-/
import Derived.Test.YtfhiljglfhekdaaGreatCarIa
import Derived.Test.YtfhiljglfhekdaaGreatCarIb
import Derived.Test.YtfhiljglfhekdaaGreatCarIc
import Derived.Test.YtfhiljglfhekdaaGreatCarId
import Derived.Test.YtfhiljglfhekdaaGreatLCac
import Derived.Test.YtfhiljglfhekdaaGreatLCab
import Derived.Test.YtfhiljglfhekdaaGreatLCaa
import Derived.Test.YtfhiljglfhekdaaGreatLWoa
import Derived.Test.YtfhiljglfhekdaaGreatLPha
import Derived.StillTailTactics
import Derived.BigQuiet
import Derived.Test.YtfhiljglfhekdaaGreatLTaa
import Derived.Deep.RegionHeld3
import Derived.Deep.QuietTactic
import Derived.Laws.StructEq
import Derived.Deep.AppendLies
import Derived.Laws.AppendOwnNone
import Derived.Test.YtfhiljglfhekdaaGreatLTxa
import Derived.RangeFuncCalls
import Derived.TacticsInMore
import Derived.OrdersIn
import Derived.Test.YtfhiljglfhekdaaGreatLSea
import Derived.Deep.LoopGhost
import Derived.Test.YtfhiljglfhekdaaGreatLHea
import Derived.Shelf.RegionOpen
import Derived.RangeFuncBox
import Derived.Sort.Grow
import Derived.Test.YtfhiljglfhekdaaGreatLCla
import Derived.Test.YtfhiljglfhekdaaGreatLTra
import Derived.Maps.OwnIn
import Derived.RangeFuncNested
import Derived.RangeFuncBound
import Derived.RangeFuncLeaves
import Derived.Shelf.Abstract
import Derived.OwnWalkIn
import Derived.LoopNIn
import Derived.LoopIn
set_option linter.unusedVariables false
set_option linter.unusedSimpArgs false
set_option maxRecDepth 100000
namespace Go.Proofs.YtfhiljglfhekdaaGreat
open Go.RowKit
section
theorem heapV_cap {E:Nat} {la la':Option Addr} {N N' c c':Nat} {vs vs':Nat→Value} (e:Ya1 E (.slice la N c) vs=Ya1 E (.slice la' N' c') vs'):c'=c:=by
 unfold Ya1 at e
 simp only [Value.agg.injEq,Array.mk.injEq,List.cons.injEq,Value.slice.injEq] at e
 exact e.2.1.2.2.symm
theorem rtake10_ok {w:World} {base:Nat} {v:Value} {E:Nat} {bs:List Blk} {L:Nat→List Nat} (h:HvIs w base v E bs L) (hbw:base≤w.heap.size) (hlen:bs.length≤1000) (hbd:Yds bs) {n a i owner:Nat} (ha:Ybr a) (hn:n≤18446744073709551560) (how:owner≤8) (hfi:fitM bs n a=some i) (hL:∀ c,(L c).length≤1000) :
  Calls Tryz.prog 76 #[v,.int .i64 owner,.int .u64 n,.int .u64 a] w fun e w'=>∃ v',e=.returned (.tuple #[v',.int .u64 (gO bs i+padN (gO bs i) a+32:Nat),.int .i64 0])∧HvIs w' base v' E (takeB bs i (padN (gO bs i) a) (Yat n) owner n) (Ydl L owner (gO bs i+padN (gO bs i) a))∧Yc9 v v' w.heap.size∧w.grownBy w' none:=by
 obtain ⟨b,vs,hv,hb,_⟩:=h.is
 obtain ⟨la,c,hbe,_⟩:=hb.at_
 rw [hbe] at hv
 have hc:∀ la' N' c' vs',v=Ya1 E (.slice la' N' c') vs'→c'=c:=fun la' N' c' vs' e=>heapV_cap (hv.symm.trans e)
 by_cases h0:owner=0
 ·by_cases hci:i+1<c
  ·exact rtake10_more0 h hbw hlen hbd ha hn how hfi hL (fun la' N' c' vs' e=>by rw [hc _ _ _ _ e];exact hci) h0
  ·exact rtake10_last0 h hbw hlen hbd ha hn how hfi hL (fun la' N' c' vs' e=>by rw [hc _ _ _ _ e];omega) h0
 ·by_cases hci:i+1<c
  ·exact rtake10_more h hbw hlen hbd ha hn how hfi hL (fun la' N' c' vs' e=>by rw [hc _ _ _ _ e];exact hci) h0
  ·exact rtake10_last h hbw hlen hbd ha hn how hfi hL (fun la' N' c' vs' e=>by rw [hc _ _ _ _ e];omega) h0
end
section
structure Fine (K E:Nat) (bs:List Blk) (L:Nat→List Nat):Prop where
 few:bs.length≤K
 low:E≤4800
 is:∀ b∈bs,mayP b.s b.u b.o∧b.off % 16=0∧b.off+b.s≤E∧(b.u=true→b.n+40≤b.s)
 lists:∀ c,c<8→(L c).length≤K
section
variable {w0 w w':World} {T:Nat} {R R':Option Nat} {ws:List Nat} {E n a i base m k p:Nat} {bs:List Blk} {L:Nat→List Nat} {v:Value} {la:Option Addr}
theorem fitErr_none (h:Ybr a) (hn:n≤18446744073709551560) (hf:fitM bs n a=none):Yax bs n a=3:=by unfold Yax;rw [if_neg (fun k=>k h),if_neg (by omega),if_pos hf]
theorem Fine.bounds {K:Nat} (h:Fine K E bs L):Yds bs:=fun k hk=>by
 have h1:=h.is _ (getB_mem hk)
 have h2:=h.low
 show (bs.getD k default).off % 16=0∧(bs.getD k default).off<1000000∧(bs.getD k default).s<10000000
 omega
end
end
section
def tkP (bs:List Blk) (n a:Nat):Nat:=match fitM bs n a with|some i=>gO bs i+padN (gO bs i) a+32|none=>0
def tkE (bs:List Blk) (n a:Nat):Nat:=match fitM bs n a with|some _=>0|none=>3
def tkB (bs:List Blk) (owner n a:Nat):List Blk:=match fitM bs n a with|some i=>takeB bs i (padN (gO bs i) a) (Yat n) owner n|none=>bs
def tkL (bs:List Blk) (L:Nat→List Nat) (owner n a:Nat):Nat→List Nat:=match fitM bs n a with|some i=>Ydl L owner (gO bs i+padN (gO bs i) a)|none=>L
section
variable {w0 w w':World} {T:Nat} {R R':Option Nat} {ws:List Nat} {E n a i base m k p owner:Nat} {bs:List Blk} {L:Nat→List Nat} {v:Value} {la:Option Addr}
theorem own_other {b:Nat} {c:Array Value} {t e:TypeId} {size:Nat} {xs:List Value} (h:w.ownsRow base e size v m xs) (hb:w.heap[b]?=some (.cells c t (0,0))) (hne:t≠e) (hg:w.grownBy w' (some b)):w'.ownsRow base e size v m xs :=
 World.ownsRow.kept h hg (by
  by_cases e:v.ownBlock=none
  ·exact .inl e
  ·refine .inr fun e2=>?_
   obtain ⟨g,hg2⟩:=Option.ne_none_iff_exists'.1 e
   obtain ⟨_,cur,hb2⟩:=Yct h hg2
   rw [hg2] at e2
   injection e2 with e2
   subst e2
   rw [hb] at hb2
   injection hb2 with hb2
   injection hb2 with _ hb2 _
   exact hne hb2)
end
end
end Go.Proofs.YtfhiljglfhekdaaGreat
