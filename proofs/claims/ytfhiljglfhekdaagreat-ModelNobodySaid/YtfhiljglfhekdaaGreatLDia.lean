/-
  Texts of one layer, one behind the other: memory, contracts of the functions, and what follows of them.
  Conditions: as each theorem says.
-/
import Derived.Test.YtfhiljglfhekdaaGreatLWoa
import Derived.Test.YtfhiljglfhekdaaGreatLWob
import Derived.Test.YtfhiljglfhekdaaGreatLCla
import Derived.Laws.StructEq
import Derived.Deep.AppendLies
import Derived.Laws.AppendOwnNone
import Derived.Test.YtfhiljglfhekdaaGreatLTxa
import Derived.Deep.RegionHeld3
set_option linter.unusedVariables false
set_option linter.unusedSimpArgs false
set_option maxRecDepth 100000
namespace Go.Proofs.YtfhiljglfhekdaaGreat
open Go.RowKit
section
def hN (s:ByteArray):Nat:=(hashTo s s.size).toNat
def hD (s:ByteArray):Nat:=hN s % 16
def nmOk (s:ByteArray):Prop:=1≤s.size∧s.size≤15
instance (s:ByteArray):Decidable (nmOk s):=by unfold nmOk;infer_instance
def loD (s:ByteArray):Nat:=if nmOk s then loS s else 0
def hiD (s:ByteArray):Nat:=if nmOk s then hiS s else 0
end
section
def Ych (l:List (ByteArray × Nat)):List Value:=l.flatMap fun p=>[.string p.1,.int .u64 (p.2:Nat)]
def OwnN (w:World) (base:Nat) (t:TypeId) (v:Value) (l:List (ByteArray × Nat)):Prop:=w.ownsRow base t 2 v l.length (Ych l)
def entS (l:List (ByteArray × Nat)) (k:Nat):ByteArray:=(l.getD k (ByteArray.empty,0)).1
def entO (l:List (ByteArray × Nat)) (k:Nat):Nat:=(l.getD k (ByteArray.empty,0)).2
theorem cellsNm_at (l:List (ByteArray × Nat)) (k:Nat) (h:k<l.length):(Ych l)[k*2]?=some (.string (entS l k))∧(Ych l)[k*2+1]?=some (.int .u64 (entO l k:Nat)):=by
 induction l generalizing k with
 | nil=>exact absurd h (Nat.not_lt_zero _)
 | cons p r ih =>
  have e:Ych (p::r)=.string p.1::.int .u64 (p.2:Nat)::Ych r:=rfl
  rw [e]
  rcases k with _|k
  ·exact ⟨rfl,rfl⟩
  ·have:=ih k (by simpa using h)
   rw [show (k+1)*2=k*2+1+1 by omega,List.getElem?_cons_succ,List.getElem?_cons_succ,List.getElem?_cons_succ,List.getElem?_cons_succ]
   exact this
theorem OwnN.later {w w':World} {base:Nat} {t:TypeId} {v:Value} {l:List (ByteArray × Nat)} (h:OwnN w base t v l) (hg:w.grownBy w' none):OwnN w' base t v l:=Ydm h hg
theorem OwnN.mono {w:World} {base base':Nat} {t:TypeId} {v:Value} {l:List (ByteArray × Nat)} (h:OwnN w base t v l) (hb:base'≤base):OwnN w base' t v l:=World.ownsRow.mono h hb
theorem OwnN.form {w:World} {base:Nat} {t:TypeId} {v:Value} {l:List (ByteArray × Nat)} (h:OwnN w base t v l):∃ a c,v=.slice a l.length c:=by
 rcases h.2 with ⟨h1,h2⟩|⟨g,cap,cur,hv,_⟩
 ·exact ⟨none,0,by rw [h1,h2]⟩
 ·exact ⟨_,cap,hv⟩
theorem OwnN.new {w:World} {base g:Nat} {t:TypeId} {v:Value} {l:List (ByteArray × Nat)} (h:OwnN w base t v l) (hg:v.ownBlock=some g):base≤g:=by
 rcases h.2 with ⟨h1,_⟩|⟨g2,cap,cur,hv,hb,_⟩
 ·rw [h1] at hg;cases hg
 ·rw [hv] at hg
  have hg':some g2=some g:=hg
  injection hg' with hg'
  omega
section
variable {w w':World} {f:Nat→Nat} {wv pv:Value} {p:Nat}
end
end
section
theorem Yef (l:List (ByteArray × Nat)):(Ych l).length=l.length*2:=by
 induction l with
 | nil=>rfl
 | cons p r ih =>
  have e:Ych (p::r)=.string p.1::.int .u64 (p.2:Nat)::Ych r:=rfl
  rw [e,List.length_cons,List.length_cons,ih,List.length_cons]
  omega
theorem OwnN.addr {w:World} {base:Nat} {t:TypeId} {v:Value} {l:List (ByteArray × Nat)} (h:OwnN w base t v l):∃ a c g,v=.slice a l.length c∧(0<l.length→a=some ⟨g,0,none⟩) ∧
  ∀ w',OwnN w' base t v l→∀ k,k<l.length→w'.cell? ⟨g,k*2,none⟩=some (.string (entS l k))∧w'.cell? ⟨g,k*2+1,none⟩=some (.int .u64 (entO l k:Nat)):=by
 rcases h.2 with ⟨h1,h2⟩|⟨g,cap,cur,hv,_⟩
 ·exact ⟨none,0,0,by rw [h1,h2],fun h=>by omega,fun w' _ j hj=>by omega⟩
 ·refine ⟨_,cap,g,hv,fun _=>rfl,fun w' h' k hk=>?_⟩
  rw [hv] at h'
  have hl:=Yef l
  have c0:=World.ownsRow.cellAt h' (k*2) (by omega)
  have c1:=World.ownsRow.cellAt h' (k*2+1) (by omega)
  obtain ⟨e0,e1⟩:=cellsNm_at l k hk
  exact ⟨c0.trans e0,c1.trans e1⟩
end
end Go.Proofs.YtfhiljglfhekdaaGreat
