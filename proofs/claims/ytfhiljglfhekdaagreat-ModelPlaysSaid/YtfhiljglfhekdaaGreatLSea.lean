/-
  Texts of one layer, one behind the other: memory, contracts of the functions, and what follows of them.
  Conditions: as each theorem says.
-/
import Derived.Test.YtfhiljglfhekdaaGreatProg
import Derived.WalkKit
import Derived.WalkSpells
import Derived.WalkLawsBesides
import Derived.Handy
import Derived.KernelRfl
import Derived.Below
import Derived.OneCell
import Derived.Laws.MakeOwn
import Derived.Laws.CopyOwn
import Derived.Lib.Hide
import Derived.Laws.BitsAll
import Derived.IntWalk
import Derived.BigGuard
import Derived.RegionTactic
import Derived.ChangeAlike
import Derived.BigRegion
import Derived.Deep.WholeRow
import Derived.Laws.IdiomCopy
import Derived.LoopTactic
import Derived.Deep.LoopGhost
import Derived.Deep.AppendLies
import Derived.Deep.Onto
import Derived.Maps.OwnSet
import Derived.Maps.AppendAt
set_option linter.unusedVariables false
set_option linter.unusedSimpArgs false
namespace Go.Proofs.YtfhiljglfhekdaaGreat
open Go.RowKit
section
theorem Yar {w:World} {b o:Nat} {c:Array Value} {t:TypeId} {fr:Nat × Nat} (h:w.heap[b]?=some (.cells c t fr)) (v:Value) :
  (w.setCell ⟨b,o,none⟩ v).heap[b]?=some (.cells (c.setIfInBounds o v) t fr):=by
 have hb:=lt_of_block h
 simp [World.setCell,Array.getElem?_modify,h]
theorem Yab (w:World) (o:Obj):(w.alloc o).heap[w.heap.size]?=some o:=by
 show (w.heap.push o)[w.heap.size]?=_
 simp
theorem Yag (w:World) (row:Option Nat):w.grownBy w row:=⟨rfl,rfl,rfl,Nat.le_refl _,fun _ _ _=>rfl⟩
theorem Yaa {a b c:World} {row:Option Nat} (h:a.grownBy b row) (k:b.grownBy c row):a.grownBy c row :=
 ⟨k.os.trans h.os,k.tape.trans h.tape,k.output.trans h.output,Nat.le_trans h.size k.size,fun i hi hn=>(k.block i (Nat.lt_of_lt_of_le hi h.size) hn).trans (h.block i hi hn)⟩
theorem Yam {a b:World} (h:a.grownBy b none) (row:Option Nat):a.grownBy b row :=
 ⟨h.os,h.tape,h.output,h.size,fun i hi _=>h.block i hi (by simp)⟩
theorem Yac (w:World) (b o:Nat) (v:Value):w.grownBy (w.setCell ⟨b,o,none⟩ v) (some b) :=
 ⟨rfl,rfl,rfl,by simp [World.setCell],fun i hi hn=>Below.heap_setCell _ _ _ _ (fun e=>hn (congrArg some e))⟩
theorem Yah {a b:World} {row:Option Nat} (h:a.grownBy b row):a.grownBy b.drew row:=⟨h.os,h.tape,h.output,h.size,h.block⟩
theorem Yap {a b:World} {k:Nat} (h:a.grownBy b (some k)) (hk:a.heap.size≤k):a.grownBy b none :=
 ⟨h.os,h.tape,h.output,h.size,fun i hi _=>h.block i hi (by intro e;injection e;omega)⟩
theorem Yaj {a b c:World} {row row':Option Nat} (h:a.grownBy b row) (k:b.grownBy c row') (hr:∀ i,row'=some i→a.heap.size≤i∨row=some i):a.grownBy c row :=
 ⟨k.os.trans h.os,k.tape.trans h.tape,k.output.trans h.output,Nat.le_trans h.size k.size,fun i hi hn =>
  (k.block i (Nat.lt_of_lt_of_le hi h.size) (by
   intro e
   rcases hr i e.symm with h'|h'
   ·omega
   ·exact hn h'.symm)).trans (h.block i hi hn)⟩
section
variable {w w':World} {B D:Nat} {ws:List Nat}
end
end
section
def low (x k:Nat):Nat:=x % 256 ^ k
end
section
def Ybi (l:List Nat):List Value:=l.map fun x=>.int .u64 (x:Nat)
theorem Ydm {w w':World} {base:Nat} {e:TypeId} {size:Nat} {v:Value} {n:Nat} {xs:List Value} (h:w.ownsRow base e size v n xs) (hg:w.grownBy w' none):w'.ownsRow base e size v n xs :=
 h.kept hg (by cases v.ownBlock <;> simp)
theorem info_u64:(Tryz.prog.info? 26).map (fun i=>(i.zero,i.size,i.bytes))=some (some (.int .u64 0),1,8):=by kernel_rfl
end
section
def OwnW (w:World) (base:Nat) (v:Value) (ws:List Nat):Prop:=w.ownsRow base 26 1 v ws.length (Ybi ws)
theorem OwnW.later {w w':World} {base:Nat} {v:Value} {ws:List Nat} (h:OwnW w base v ws) (hg:w.grownBy w' none):OwnW w' base v ws:=Ydm h hg
theorem OwnW.slice {w:World} {base:Nat} {v:Value} {ws:List Nat} (h:OwnW w base v ws):∃ a c,v=.slice a ws.length c:=by
 rcases h.2 with ⟨h1,h2⟩|⟨g,cap,cur,hv,_⟩
 ·exact ⟨none,0,by rw [h1,h2]⟩
 ·exact ⟨_,_,hv⟩
theorem OwnW.mono {w:World} {base base':Nat} {v:Value} {ws:List Nat} (h:OwnW w base v ws) (hb:base'≤base):OwnW w base' v ws:=World.ownsRow.mono h hb
theorem OwnW.at_ {w:World} {base g c:Nat} {ws:List Nat} (h:OwnW w base (.slice (some ⟨g,0,none⟩) ws.length c) ws) (j:Nat) (hj:j<ws.length):w.cell? ⟨g,j,none⟩=some (.int .u64 (ws.getD j 0:Nat)):=by
 have:=World.ownsRow.cellAt h j (by omega)
 rw [this]
 simp [Ybi,List.getElem?_eq_getElem hj]
theorem make_words (n:Nat) (hn:n≤1048576) (w:World) :
  (Instr.makeSlice 28 (.int .u64 n) (.int .u64 n)).run Tryz.prog w=.ok (.slice (some ⟨w.heap.size,0,none⟩) n n) (w.alloc (.cells (madeCells #[.int .u64 0] n) 26)):=by
 obtain ⟨i,hi,hz,hs,hb⟩:=info_parts info_u64
 have h:=run_make (P:=Tryz.prog) w 28 26 i _ Tryz.underlying28 hi hz .u64 .u64 n n (by omega) (Int.le_refl _) (by rw [hb];omega) (by omega)
 rw [h,hs]
 simp only [Int.toNat_natCast,Nat.mul_one]
 rfl
theorem OwnW.addr {w:World} {base:Nat} {v:Value} {ws:List Nat} (h:OwnW w base v ws):∃ a c g,v=.slice a ws.length c∧(0<ws.length→a=some ⟨g,0,none⟩)∧∀ w',OwnW w' base v ws→∀ j,j<ws.length→w'.cell? ⟨g,j,none⟩=some (.int .u64 (ws.getD j 0:Nat)):=by
 rcases h.2 with ⟨h1,h2⟩|⟨g,cap,cur,hv,_⟩
 ·exact ⟨none,0,0,by rw [h1,h2],fun h=>by omega,fun w' _ j hj=>by omega⟩
 ·exact ⟨_,cap,g,hv,fun _=>rfl,fun w' h' j hj=>by rw [hv] at h';exact OwnW.at_ h' j hj⟩
theorem Ybl (w:World) (n:Nat):w.grownBy (w.drewN n) none:=⟨rfl,rfl,rfl,Nat.le_refl _,fun _ _ _=>rfl⟩
end
section
structure Ybo (p:Nat→Prop) (w w':World):Prop where
 os:w'.os=w.os
 tape:w'.tape=w.tape
 output:w'.output=w.output
 size:w.heap.size≤w'.heap.size
 block:∀ k,k<w.heap.size→¬ p k→w'.heap[k]?=w.heap[k]?
theorem Ybo.of_none {w w':World} (h:w.grownBy w' none) (p:Nat→Prop):Ybo p w w' :=
 ⟨h.os,h.tape,h.output,h.size,fun k hk _=>h.block k hk (by simp)⟩
theorem Ybo.trans {p q:Nat→Prop} {a b c:World} (h:Ybo p a b) (k:Ybo q b c) (hq:∀ i,q i→p i∨a.heap.size≤i):Ybo p a c :=
 ⟨k.os.trans h.os,k.tape.trans h.tape,k.output.trans h.output,Nat.le_trans h.size k.size,fun i hi hn =>
  (k.block i (Nat.lt_of_lt_of_le hi h.size) (fun hk=>by
   rcases hq i hk with h'|h'
   ·exact hn h'
   ·omega)).trans (h.block i hi hn)⟩
theorem Ybo.first {p:Nat→Prop} {a b c:World} (h:a.grownBy b none) (k:Ybo p b c):Ybo p a c:=(Ybo.of_none h p).trans k (fun _ hp=>.inl hp)
theorem Ybo.grown {p:Nat→Prop} {a b:World} (h:Ybo p a b) (hp:∀ i,p i→a.heap.size≤i):a.grownBy b none :=
 ⟨h.os,h.tape,h.output,h.size,fun i hi _=>h.block i hi (fun hk=>by have:=hp i hk;omega)⟩
theorem Ybo.heap {p:Nat→Prop} {w w':World} (h:Ybo p w w') {b:Nat} {o:Obj} (hb:w.heap[b]?=some o) (hn:¬ p b):w'.heap[b]?=some o:=(h.block b (lt_of_block hb) hn).trans hb
section
variable {p:Nat→Prop} {w w':World}
theorem Yd2 {base:Nat} {e:TypeId} {size:Nat} {v:Value} {n:Nat} {xs:List Value} (h:w.ownsRow base e size v n xs) (ht:Ybo p w w') (hne:∀ g,v.ownBlock=some g→¬ p g):w'.ownsRow base e size v n xs:=by
 refine ⟨h.1,?_⟩
 rcases h.2 with hn|⟨g,cap,cur,rfl,hb,hgg,rest⟩
 ·exact .inl hn
 ·exact .inr ⟨g,cap,cur,rfl,hb,ht.heap hgg (hne g rfl),rest⟩
theorem map_turned {H:Type} {P:Program} {k:TypeId} {R:Value→Option (DataW H × List MemPlace)} {b n:Nat} {D:DataW H} (h:w.ownsMap P k R b n D) (ht:Ybo p w w') (hb:¬ p b):w'.ownsMap P k R b n D:=by
 obtain ⟨es,clock,h1,rest⟩:=h
 exact ⟨es,clock,ht.heap h1 hb,rest⟩
end
theorem Yct {w:World} {base:Nat} {e:TypeId} {size:Nat} {v:Value} {n:Nat} {xs:List Value} (h:w.ownsRow base e size v n xs) {g:Nat} (hg:v.ownBlock=some g):base≤g∧∃ cur,w.heap[g]?=some (.cells cur e (0,0)):=by
 rcases h.2 with ⟨rfl,_⟩|⟨g',cap,cur,rfl,hb,hgg,_⟩
 ·cases hg
 ·injection hg with hg
  subst hg
  exact ⟨hb,cur,hgg⟩
theorem map_tight {H:Type} {w:World} {P:Program} {k:TypeId} {R:Value→Option (DataW H × List MemPlace)} {b n:Nat} {D:DataW H} (h:w.ownsMap P k R b n D):w.ownsMap P k R b (Maps.size D) D:=by
 obtain ⟨es,clock,h1,F,_,rfl⟩:=h
 exact ⟨es,clock,h1,F,by simp [Maps.size,length_sorted],rfl⟩
end
end Go.Proofs.YtfhiljglfhekdaaGreat
