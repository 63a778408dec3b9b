/-
  Texts of one layer, one behind the other: memory, contracts of the functions, and what follows of them.
  Conditions: as each theorem says.
-/
import Derived.Test.YtfhiljglfhekdaaGreatLSea
import Derived.Test.YtfhiljglfhekdaaGreatLWoa
import Derived.Laws.Bits64
import Derived.Test.YtfhiljglfhekdaaGreatLTxa
set_option linter.unusedVariables false
set_option linter.unusedSimpArgs false
namespace Go.Proofs.YtfhiljglfhekdaaGreat
open Go.RowKit
section
def fitsP (n a:Nat):Prop:=n % 16=0∧3824≤n∧n≤a
instance (n a:Nat):Decidable (fitsP n a):=by unfold fitsP;infer_instance
theorem rfits_any (n a:Nat) (w:World) :
  Calls Tryz.prog 46 #[.int .u64 n,.int .u64 a] w fun e w'=>e=.returned (.bool (decide (fitsP n a)))∧w=w':=by
 by_cases h0:(n:Int) % 16=0
 ·by_cases h1:3824≤(n:Int)
  ·have hd:decide (fitsP n a)=decide (n≤a):=by rw [decide_eq_decide];unfold fitsP;omega
   rw [hd]
   go_enter Tryz.func46,Tryz.ntmps46
   go_wp2
   go_ret
   exact ⟨rfl,rfl⟩
  ·rw [decide_eq_false (show ¬ fitsP n a by unfold fitsP;omega)]
   go_enter Tryz.func46,Tryz.ntmps46
   go_wp2
   go_ret
   exact ⟨rfl,rfl⟩
 ·rw [decide_eq_false (show ¬ fitsP n a by unfold fitsP;omega)]
  go_enter Tryz.func46,Tryz.ntmps46
  go_wp2
  go_ret
  exact ⟨rfl,rfl⟩
end
section
theorem OwnW.set {w:World} {base g cp:Nat} {ws:List Nat} (hown:OwnW w base (.slice (some ⟨g,0,none⟩) ws.length cp) ws) (q x:Nat) :
  OwnW (w.setCell ⟨g,q,none⟩ (.int .u64 (x:Nat))) base (.slice (some ⟨g,0,none⟩) (ws.set q x).length cp) (ws.set q x):=by
 have hs:=World.ownsRow.stored hown q (.int .u64 (x:Nat))
 have e:(Ybi ws).set q (.int .u64 (x:Nat))=Ybi (ws.set q x):=by simp [Ybi,List.map_set]
 unfold OwnW
 rw [List.length_set,← e]
 exact hs.1
end
end Go.Proofs.YtfhiljglfhekdaaGreat
