/-
  Texts of one layer, one behind the other: memory, contracts of the functions, and what follows of them.
  Conditions: as each theorem says.
-/
import Derived.Test.YtfhiljglfhekdaaGreatLTaa
import Derived.StillTailTactics
import Derived.Deep.RegionHeld3
import Derived.Deep.QuietTactic
import Derived.BigQuiet
import Derived.Laws.StructEq
import Derived.Deep.AppendLies
import Derived.Laws.AppendOwnNone
import Derived.Test.YtfhiljglfhekdaaGreatLTxa
import Derived.RangeFuncCalls
import Derived.TacticsInMore
import Derived.OrdersIn
import Derived.Test.YtfhiljglfhekdaaGreatLSea
import Derived.Deep.LoopGhost
import Derived.Test.YtfhiljglfhekdaaGreatLWoa
import Derived.RangeFuncNested
import Derived.RangeFuncBound
import Derived.RangeFuncLeaves
import Derived.Shelf.Abstract
import Derived.Shelf.RegionOpen
import Derived.OwnWalkIn
import Derived.LoopNIn
import Derived.LoopIn
import Derived.Maps.OwnIn
import Derived.RangeFuncBox
import Derived.Test.YtfhiljglfhekdaaGreatLHea
import Derived.Test.YtfhiljglfhekdaaGreatLWob
set_option linter.unusedVariables false
set_option linter.unusedSimpArgs false
namespace Go.Proofs.YtfhiljglfhekdaaGreat
open Go.RowKit
section
structure Blk where
 off:Nat
 s:Nat
 u:Bool
 o:Int
 n:Nat
deriving DecidableEq
instance:Inhabited Blk:=⟨⟨0,0,false,0,0⟩⟩
def Blk.row (b:Blk):List Value:=[.int .u64 (b.off:Nat),.int .u64 (b.s:Nat),.bool b.u,.int .i64 b.o,.int .u64 (b.n:Nat)]
section
variable {w w':World} {b:Nat} {x y z p q x' y' z' p' q':Value} {t:TypeId}
theorem Yaw (h:w.heap[b]?=some (.cells #[x,y,z,p,q] t (0,0))):w.cell? ⟨b,0,none⟩=some x∧w.cell? ⟨b,1,none⟩=some y∧w.cell? ⟨b,2,none⟩=some z∧w.cell? ⟨b,3,none⟩=some p∧w.cell? ⟨b,4,none⟩=some q :=
 ⟨by simp [World.cell?,h],by simp [World.cell?,h],by simp [World.cell?,h],by simp [World.cell?,h],by simp [World.cell?,h]⟩
theorem five_frozen (h:w.heap[b]?=some (.cells #[x,y,z,p,q] t (0,0))):w.frozen? ⟨b,0,none⟩=false∧w.frozen? ⟨b,1,none⟩=false∧w.frozen? ⟨b,2,none⟩=false∧w.frozen? ⟨b,3,none⟩=false∧w.frozen? ⟨b,4,none⟩=false :=
 ⟨by simp [World.frozen?,h],by simp [World.frozen?,h],by simp [World.frozen?,h],by simp [World.frozen?,h],by simp [World.frozen?,h]⟩
theorem five_first (hg:(w.alloc (.cells #[x,y,z,p,q] t)).grownBy w' none):w'.heap[w.heap.size]?=some (.cells #[x,y,z,p,q] t (0,0)):=by
 have h1:(w.alloc (.cells #[x,y,z,p,q] t)).heap[w.heap.size]?=some (.cells #[x,y,z,p,q] t (0,0)):=Yab _ _
 exact (hg.block _ (lt_of_block h1) (by simp)).trans h1
end
section
variable {w:World} {T M:Nat} {R:Option Nat} {B D:Nat} {ws:List Nat} {l:List (Nat × Nat)}
end
end
section
section
variable {f:Nat→Nat} {N:Nat} {ok:Bool}
end
def Yca (l:List Blk):List Value:=l.flatMap Blk.row
theorem cellsB_snoc (l:List Blk) (b:Blk):Yca (l++[b])=Yca l++b.row:=by simp [Yca,List.flatMap_append]
theorem Ye1 (l:List Blk):(Yca l).length=l.length*5:=by
 induction l with
 | nil=>rfl
 | cons b l ih =>
  show (b.row++Yca l).length=_
  rw [List.length_append,ih]
  simp [Blk.row]
  omega
theorem Ycu (l:List Blk) (k i:Nat) (h:k<l.length) (hi:i<5):(Yca l)[k*5+i]?=(l.getD k default).row[i]?:=by
 induction l generalizing k with
 | nil=>simp at h
 | cons b l ih =>
  show (b.row++Yca l)[k*5+i]?=_
  have hb:b.row.length=5:=rfl
  cases k with
  | zero =>
   rw [List.getElem?_append_left (by rw [hb];omega)]
   simp
  | succ k =>
   rw [List.getElem?_append_right (by rw [hb];omega),hb,show (k+1)*5+i - 5=k*5+i by omega,ih k (by simpa using h)]
   simp
theorem cellsB_one (l:List Blk):∀ u∈Yca l,u.oneCell'=true:=by
 intro u hu
 unfold Yca at hu
 rw [List.mem_flatMap] at hu
 obtain ⟨b,_,hb⟩:=hu
 simp [Blk.row] at hb
 rcases hb with rfl|rfl|rfl|rfl|rfl <;> rfl
end
section
open Go.RowKit Go.Shelf
attribute [local go_sem] Oper.semAt_some
theorem cells_five_new (W:World) (t:TypeId) (x y z p q:Value):∀ j u,[x,y,z,p,q][j]?=some u→(W.alloc (.cells #[x,y,z,p,q] t)).cell? ((⟨W.heap.size,0,none⟩:Addr).add j)=some u:=by
 intro j u hj
 have hb:(W.alloc (.cells #[x,y,z,p,q] t)).heap[W.heap.size]?=some (.cells #[x,y,z,p,q] t (0,0)):=Yab _ _
 have hadd:∀ j,(⟨W.heap.size,0,none⟩:Addr).add j=⟨W.heap.size,j,none⟩:=fun j=>by unfold Addr.add;split <;> simp_all
 rw [hadd]
 unfold World.cell?
 simp only [hb]
 rcases j with _|_|_|_|_|j
 all_goals first|(simp at hj;subst hj;rfl)|(simp at hj)
def OwnB (w:World) (base:Nat) (t:TypeId) (v:Value) (l:List Blk):Prop:=w.ownsRow base t 5 v l.length (Yca l)
section
variable {w:World} {T M:Nat} {R:Option Nat} {B D:Nat} {ws:List Nat} {l:List (Nat × Nat)}
end
end
section
def gO (l:List Blk) (k:Nat):Nat:=(l.getD k default).off
def gS (l:List Blk) (k:Nat):Nat:=(l.getD k default).s
def gU (l:List Blk) (k:Nat):Bool:=(l.getD k default).u
def gW (l:List Blk) (k:Nat):Int:=(l.getD k default).o
def gN (l:List Blk) (k:Nat):Nat:=(l.getD k default).n
structure Yb0 (w:World) (la:Option Addr) (l:List Blk):Prop where
 cells:0<l.length→∃ b off,la=some ⟨b,off,none⟩∧b<w.heap.size∧∀ k,k<l.length→w.cell? ⟨b,off+k*5,none⟩=some (.int .u64 (gO l k:Nat))∧w.cell? ⟨b,off+k*5+1,none⟩=some (.int .u64 (gS l k:Nat))∧w.cell? ⟨b,off+k*5+2,none⟩=some (.bool (gU l k))∧w.cell? ⟨b,off+k*5+3,none⟩=some (.int .i64 (gW l k))∧w.cell? ⟨b,off+k*5+4,none⟩=some (.int .u64 (gN l k:Nat))
theorem Yb0.later {w w':World} {la:Option Addr} {l:List Blk} (h:Yb0 w la l) (hg:w.grownBy w' none):Yb0 w' la l where
 cells:=fun hn=>by
  obtain ⟨b,off,h1,h2,h3⟩:=h.cells hn
  refine ⟨b,off,h1,Nat.lt_of_lt_of_le h2 hg.size,fun i hi=>?_⟩
  have hb:=hg.block b h2 (by simp)
  obtain ⟨c0,c1,c2,c3,c4⟩:=h3 i hi
  exact ⟨(World.cell?_of_block (w:=w) (a:=⟨b,off+i*5,none⟩) hb).trans c0,(World.cell?_of_block (w:=w) (a:=⟨b,off+i*5+1,none⟩) hb).trans c1,(World.cell?_of_block (w:=w) (a:=⟨b,off+i*5+2,none⟩) hb).trans c2,(World.cell?_of_block (w:=w) (a:=⟨b,off+i*5+3,none⟩) hb).trans c3,(World.cell?_of_block (w:=w) (a:=⟨b,off+i*5+4,none⟩) hb).trans c4⟩
theorem OwnB.later {w w':World} {base:Nat} {t:TypeId} {v:Value} {l:List Blk} (h:OwnB w base t v l) (hg:w.grownBy w' none):OwnB w' base t v l:=Ydm h hg
theorem OwnB.mono {w:World} {base base':Nat} {t:TypeId} {v:Value} {l:List Blk} (h:OwnB w base t v l) (hb:base'≤base):OwnB w base' t v l:=World.ownsRow.mono h hb
theorem OwnB.at_ {w:World} {base:Nat} {t:TypeId} {v:Value} {l:List Blk} (h:OwnB w base t v l):∃ la c,v=.slice la l.length c∧Yb0 w la l:=by
 rcases h.2 with ⟨h1,h2⟩|⟨g,cap,cur,hv,hbg,hg,rest⟩
 ·exact ⟨none,0,by rw [h1,h2],⟨fun h=>by omega⟩⟩
 ·refine ⟨_,cap,hv,⟨fun _=>⟨g,0,rfl,lt_of_block hg,fun k hk=>?_⟩⟩⟩
  have h':=h
  unfold OwnB at h'
  rw [hv] at h'
  have hl:=Ye1 l
  have c0:=(World.ownsRow.cellAt h' (k*5) (by omega)).trans (Ycu l k 0 hk (by decide))
  have c1:=(World.ownsRow.cellAt h' (k*5+1) (by omega)).trans (Ycu l k 1 hk (by decide))
  have c2:=(World.ownsRow.cellAt h' (k*5+2) (by omega)).trans (Ycu l k 2 hk (by decide))
  have c3:=(World.ownsRow.cellAt h' (k*5+3) (by omega)).trans (Ycu l k 3 hk (by decide))
  have c4:=(World.ownsRow.cellAt h' (k*5+4) (by omega)).trans (Ycu l k 4 hk (by decide))
  rw [Nat.zero_add]
  exact ⟨c0,c1,c2,c3,c4⟩
def fstN (p:Blk→Bool):List Blk→Option Nat
 | []=>none
 | b::r=>if p b=true then some 0 else (fstN p r).map (·+1)
def fstZ (p:Blk→Bool) (l:List Blk):Int:=match fstN p l with|some i=>(i:Int)|none => -1
section
variable {p:Blk→Bool} {l:List Blk}
theorem fstN_is {k:Nat} (h:k<l.length) (hx:p (l.getD k default)=true) (hj:∀ j,j<k→p (l.getD j default)=false):fstN p l=some k:=by
 induction l generalizing k with
 | nil=>simp at h
 | cons b r ih =>
  unfold fstN
  cases k with
  | zero =>
   have:p b=true:=by simpa using hx
   rw [if_pos this]
  | succ k =>
   have h0:p b=false:=by simpa using hj 0 (Nat.succ_pos k)
   rw [if_neg (by simp [h0]),ih (k:=k) (by simpa using h) (by simpa using hx) (fun j hj'=>by simpa using hj (j+1) (Nat.succ_lt_succ hj'))]
   rfl
theorem fstN_not (hj:∀ j,j<l.length→p (l.getD j default)=false):fstN p l=none:=by
 induction l with
 | nil=>rfl
 | cons b r ih =>
  unfold fstN
  have h0:p b=false:=by simpa using hj 0 (by simp)
  rw [if_neg (by simp [h0]),ih (fun j hj'=>by simpa using hj (j+1) (by simpa using hj'))]
  rfl
theorem Ydr {k:Nat} (h:fstN p l=some k):k<l.length∧p (l.getD k default)=true:=by
 induction l generalizing k with
 | nil=>cases h
 | cons b r ih =>
  unfold fstN at h
  split at h
  ·rename_i e
   injection h with h
   subst h
   exact ⟨by simp,by simpa using e⟩
  ·cases e:fstN p r with
   | none=>rw [e] at h;cases h
   | some i =>
    rw [e] at h
    injection h with h
    subst h
    obtain ⟨h1,h2⟩:=ih e
    exact ⟨by simpa using h1,by simpa using h2⟩
end
def pF (payload:Nat) (b:Blk):Bool:=b.u && decide ((b.off+32) % 18446744073709551616=payload)
theorem fstZ_is {p:Blk→Bool} {l:List Blk} {k:Nat} (h:k<l.length) (hx:p (l.getD k default)=true) (hj:∀ j,j<k→p (l.getD j default)=false):(k:Int)=fstZ p l:=by
 unfold fstZ
 rw [fstN_is h hx hj]
theorem fstZ_not {p:Blk→Bool} {l:List Blk} (hj:∀ j,j<l.length→p (l.getD j default)=false) : -1=fstZ p l:=by
 unfold fstZ
 rw [fstN_not hj]
end
section
theorem info_rblk:(Tryz.prog.info? 81).map (fun i=>(i.zero,i.size,i.bytes))=some (some (.agg #[.int .u64 0,.int .u64 0,.bool false,.int .i64 0,.int .u64 0]),5,40):=by kernel_rfl
theorem Ycv {w2:World} {base k:Nat} {l:List Blk} {v:Value} (hkl:l.length=k) (hown:OwnB w2 base 81 v l) (hn:l.length≤1000000) (hbase:base≤w2.heap.size) (b:Blk)
  {ops:Array Oper} {rest:List Oper} {o:Oper} {a:Act} {Q:Exit→Act→World→Prop} (hgd:o.guard=none) (s x:Operand)
  (ho:o.op=.call { callee:=.builtin .append,args:=#[s,x],argTypes:=#[27,27] })
  (hs:a.eval s=v) {m:Nat} (hx:a.eval x=.slice (some ⟨m,0,none⟩) 1 1) (hm:m=w2.heap.size)
  (h:∀ g cp w',OwnB w' base 81 (.slice (some ⟨g,0,none⟩) (k+1) cp) (l++[b])→w2.grownBy w' v.ownBlock→(v.ownBlock=some g∨g=w2.heap.size+1)→wpList Tryz.prog ops Q rest (a.put o.dst (.slice (some ⟨g,0,none⟩) (k+1) cp)) w') :
  wpList Tryz.prog ops Q (o::rest) a (w2.alloc (.cells #[.int .u64 (b.off:Nat),.int .u64 (b.s:Nat),.bool b.u,.int .i64 b.o,.int .u64 (b.n:Nat)] 81)):=by
 subst hkl
 subst hm
 obtain ⟨i0,hi,hz0,hz1,hz2⟩:=info_parts info_rblk
 refine wpList_append_own_at _ hgd s x 27 ho base 81 i0 (.agg #[.int .u64 0,.int .u64 0,.bool false,.int .i64 0,.int .u64 0]) 5 40 Tryz.underlying27 hi hz0 hz1 hz2 rfl (by decide) v l.length (Yca l) hs (World.ownsRow.alloc hown _) ⟨w2.heap.size,0,none⟩ 1 1 b.row hx rfl (cells_five_new _ _ _ _ _ _ _) (by simp [Value.oneCell',Blk.row]) (by unfold maxLen;omega) (by omega) (by rw [World.size_alloc];omega) fun v' w' h1 h2 _ h4=>?_
 obtain ⟨g,cp,rfl⟩:=ownsRow_succ h1
 refine h g cp w' ?_ (Yaa (World.grownBy_alloc _ _ _) h2) ?_
 ·unfold OwnB
  rw [cellsB_snoc,List.length_append]
  exact h1
 ·rw [World.size_alloc] at h4
  rcases h4 with h4|h4
  ·exact .inl h4.symm
  ·right;injection h4
section
variable {w:World} {base:Nat} {wv pv:Value} {ws:List Nat} {l:List (Nat × Nat)}
end
end
end Go.Proofs.YtfhiljglfhekdaaGreat
