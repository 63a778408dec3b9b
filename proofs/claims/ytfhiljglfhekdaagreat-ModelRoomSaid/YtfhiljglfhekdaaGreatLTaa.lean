/-
  Texts of one layer, one behind the other: memory, contracts of the functions, and what follows of them.
  Conditions: as each theorem says.
-/
import Derived.Shelf.RegionOpen
import Derived.Deep.QuietTactic
import Derived.BigQuiet
import Derived.Deep.LoopGhost
import Derived.Deep.RegionHeld3
import Derived.Test.YtfhiljglfhekdaaGreatLHea
import Derived.RangeFuncBox
import Derived.Test.YtfhiljglfhekdaaGreatLSea
import Derived.Laws.StructEq
import Derived.Laws.Bits64
import Derived.Test.YtfhiljglfhekdaaGreatLWoa
set_option linter.unusedVariables false
set_option linter.unusedSimpArgs false
namespace Go.Proofs.YtfhiljglfhekdaaGreat
open Go.RowKit
section
def mayP (s:Nat) (u:Bool) (o:Int):Prop:=s % 16=0∧48≤s∧s≤1048576∧0≤o∧o≤8∧(u=true∨o=0)
instance (s:Nat) (u:Bool) (o:Int):Decidable (mayP s u o):=by unfold mayP;infer_instance
theorem Yaf {w:World} {b:Nat} {x y z:Value} {t:TypeId} (h:w.heap[b]?=some (.cells #[x,y,z] t (0,0))):w.cell? ⟨b,0,none⟩=some x∧w.cell? ⟨b,1,none⟩=some y∧w.cell? ⟨b,2,none⟩=some z:=by
 exact ⟨by simp [World.cell?,h],by simp [World.cell?,h],by simp [World.cell?,h]⟩
end
section
theorem Yak {w:World} {b:Nat} {x y z:Value} {t:TypeId} (h:w.heap[b]?=some (.cells #[x,y,z] t (0,0))):w.frozen? ⟨b,0,none⟩=false∧w.frozen? ⟨b,1,none⟩=false∧w.frozen? ⟨b,2,none⟩=false:=by
 exact ⟨by simp [World.frozen?,h],by simp [World.frozen?,h],by simp [World.frozen?,h]⟩
theorem Yaz {w:World} {b:Nat} {x y z x' y' z':Value} {t:TypeId} (h:w.heap[b]?=some (.cells #[x,y,z] t (0,0))):(((w.setCell ⟨b,0,none⟩ x').setCell ⟨b,1,none⟩ y').setCell ⟨b,2,none⟩ z').heap[b]?=some (.cells #[x',y',z'] t (0,0)):=by
 rw [Yar (Yar (Yar h x') y') z'];rfl
end
end Go.Proofs.YtfhiljglfhekdaaGreat
