/-
  No cell of these rows narrows 'for every input' (looked for: loops, veiled, ifaces, maps, wideKeys, modest, calm, conditions, laid).
  DERIVED. THE GIVEN ROWS OF THIS SEAT. 6 by the template 'for every input the law returns true; each argument reads behind the call as it read before'; 0 by the template 'total and deterministic' (their statements: YtcngmkfpbcemjaaGreatTotals.lean).
  GIVEN WITH THE SEED: the statements are not yours to turn. If you find one false, say at which input.
  Laid BY PROGRAM, IN A SANDBOX (cutbox-rows.mjs): the forced cells as the released guide's own fill.sh prints them over the translation 97892a451d2d7102… (all of the seat's roots in one cut). By AI agents, Wed Nov 11 2026. No macro, syntax, notation, axiom, sorry.
-/
import Derived.Test.YtcngmkfpbcemjaaGreatChecked
import GoSem.Claim
import GoSem.ClaimJoined
import GoSem.ClaimMapViews
import Derived.JoinedTies
import Derived.KernelRfl
namespace Go.Proofs.YtcngmkfpbcemjaaGreat
/- THE CELL 'sum', in the pinned program and in every row, IS THE sha256 OF THE DUMP (.gsa) THAT YtcngmkfpbcemjaaGreatProg.lean LOADS. Nothing in Lean hashes anything: it is a label: what it is worth is what the hold of that sum in a sandbox is worth. -/
noncomputable def Tryz.pinned : Pinned := { name := "ytcngmkfpbcemjaagreat", sum := "97892a451d2d7102b80bb5f5b85642e86e6b43cfbe81d14d70a598e880bd4c52", checked := Tryz.checked }
namespace Rows
def none {H : Type} : Left H := { results := [], args := [] }

/-- 'carracklaw11.ReleasePlays': WHATEVER THE INPUT: true; the input reads as it did. -/
def releasePlaysSpec : ChangeSpec := { name := "releasePlays", fn := fun _ => fun
  | [d1, d2, d3] => { results := [.lit (.bool true)], args := [d1, d2, d3] }
  | _ => none }
def releasePlaysRow : OpenClaim := { program := "ytcngmkfpbcemjaagreat", sum := "97892a451d2d7102b80bb5f5b85642e86e6b43cfbe81d14d70a598e880bd4c52", func := "carrack/carracklaw11.ReleasePlays", spec := "releasePlays", inPlace := ["math/bits.Add64"], unfollowed := true, recurses := true, apart := false }
def ReleasePlaysSaid : Prop := releasePlaysRow.holds Tryz.pinned (OpenSpec.ofChange releasePlaysSpec)

/-- ITS FALSE NEIGHBOUR: 'it returns false'. Refute it at one input. -/
def releasePlaysWrong : ChangeSpec := { name := "releasePlays", fn := fun _ => fun
  | [d1, d2, d3] => { results := [.lit (.bool false)], args := [d1, d2, d3] }
  | _ => none }
def ReleasePlaysWrongFalsely : Prop := releasePlaysRow.holds Tryz.pinned (OpenSpec.ofChange releasePlaysWrong)

/-- 'carracklaw11.ReleaseUndoes': WHATEVER THE INPUT: true; the input reads as it did. -/
def releaseUndoesSpec : ChangeSpec := { name := "releaseUndoes", fn := fun _ => fun
  | [d1, d2, d3] => { results := [.lit (.bool true)], args := [d1, d2, d3] }
  | _ => none }
def releaseUndoesRow : OpenClaim := { program := "ytcngmkfpbcemjaagreat", sum := "97892a451d2d7102b80bb5f5b85642e86e6b43cfbe81d14d70a598e880bd4c52", func := "carrack/carracklaw11.ReleaseUndoes", spec := "releaseUndoes", inPlace := ["math/bits.Add64"], unfollowed := true, recurses := true, apart := false }
def ReleaseUndoesSaid : Prop := releaseUndoesRow.holds Tryz.pinned (OpenSpec.ofChange releaseUndoesSpec)

/-- ITS FALSE NEIGHBOUR: 'it returns false'. Refute it at one input. -/
def releaseUndoesWrong : ChangeSpec := { name := "releaseUndoes", fn := fun _ => fun
  | [d1, d2, d3] => { results := [.lit (.bool false)], args := [d1, d2, d3] }
  | _ => none }
def ReleaseUndoesWrongFalsely : Prop := releaseUndoesRow.holds Tryz.pinned (OpenSpec.ofChange releaseUndoesWrong)

/-- 'carracklaw11.ReleaseAll': WHATEVER THE INPUT: true; the input reads as it did. -/
def releaseAllSpec : ChangeSpec := { name := "releaseAll", fn := fun _ => fun
  | [d1, d2] => { results := [.lit (.bool true)], args := [d1, d2] }
  | _ => none }
def releaseAllRow : OpenClaim := { program := "ytcngmkfpbcemjaagreat", sum := "97892a451d2d7102b80bb5f5b85642e86e6b43cfbe81d14d70a598e880bd4c52", func := "carrack/carracklaw11.ReleaseAll", spec := "releaseAll", inPlace := ["math/bits.Add64"], unfollowed := true, recurses := true, apart := false }
def ReleaseAllSaid : Prop := releaseAllRow.holds Tryz.pinned (OpenSpec.ofChange releaseAllSpec)

/-- ITS FALSE NEIGHBOUR: 'it returns false'. Refute it at one input. -/
def releaseAllWrong : ChangeSpec := { name := "releaseAll", fn := fun _ => fun
  | [d1, d2] => { results := [.lit (.bool false)], args := [d1, d2] }
  | _ => none }
def ReleaseAllWrongFalsely : Prop := releaseAllRow.holds Tryz.pinned (OpenSpec.ofChange releaseAllWrong)

/-- 'carracklaw11.ReleaseMerged': WHATEVER THE INPUT: true; the input reads as it did. -/
def releaseMergedSpec : ChangeSpec := { name := "releaseMerged", fn := fun _ => fun
  | [d] => { results := [.lit (.bool true)], args := [d] }
  | _ => none }
def releaseMergedRow : OpenClaim := { program := "ytcngmkfpbcemjaagreat", sum := "97892a451d2d7102b80bb5f5b85642e86e6b43cfbe81d14d70a598e880bd4c52", func := "carrack/carracklaw11.ReleaseMerged", spec := "releaseMerged", inPlace := ["math/bits.Add64"], unfollowed := true, recurses := true, apart := false }
def ReleaseMergedSaid : Prop := releaseMergedRow.holds Tryz.pinned (OpenSpec.ofChange releaseMergedSpec)

/-- ITS FALSE NEIGHBOUR: 'it returns false'. Refute it at one input. -/
def releaseMergedWrong : ChangeSpec := { name := "releaseMerged", fn := fun _ => fun
  | [d] => { results := [.lit (.bool false)], args := [d] }
  | _ => none }
def ReleaseMergedWrongFalsely : Prop := releaseMergedRow.holds Tryz.pinned (OpenSpec.ofChange releaseMergedWrong)

/-- 'carracklaw11.ReleaseCuts': WHATEVER THE INPUT: true; the input reads as it did. -/
def releaseCutsSpec : ChangeSpec := { name := "releaseCuts", fn := fun _ => fun
  | [d1, d2, d3] => { results := [.lit (.bool true)], args := [d1, d2, d3] }
  | _ => none }
def releaseCutsRow : OpenClaim := { program := "ytcngmkfpbcemjaagreat", sum := "97892a451d2d7102b80bb5f5b85642e86e6b43cfbe81d14d70a598e880bd4c52", func := "carrack/carracklaw11.ReleaseCuts", spec := "releaseCuts", inPlace := ["math/bits.Add64"], unfollowed := true, recurses := true, apart := false }
def ReleaseCutsSaid : Prop := releaseCutsRow.holds Tryz.pinned (OpenSpec.ofChange releaseCutsSpec)

/-- ITS FALSE NEIGHBOUR: 'it returns false'. Refute it at one input. -/
def releaseCutsWrong : ChangeSpec := { name := "releaseCuts", fn := fun _ => fun
  | [d1, d2, d3] => { results := [.lit (.bool false)], args := [d1, d2, d3] }
  | _ => none }
def ReleaseCutsWrongFalsely : Prop := releaseCutsRow.holds Tryz.pinned (OpenSpec.ofChange releaseCutsWrong)

/-- 'carracklaw11.ReleaseNone': WHATEVER THE INPUT: true; the input reads as it did. -/
def releaseNoneSpec : ChangeSpec := { name := "releaseNone", fn := fun _ => fun
  | [d1, d2] => { results := [.lit (.bool true)], args := [d1, d2] }
  | _ => none }
def releaseNoneRow : OpenClaim := { program := "ytcngmkfpbcemjaagreat", sum := "97892a451d2d7102b80bb5f5b85642e86e6b43cfbe81d14d70a598e880bd4c52", func := "carrack/carracklaw11.ReleaseNone", spec := "releaseNone", inPlace := ["math/bits.Add64"], unfollowed := true, recurses := true, apart := false }
def ReleaseNoneSaid : Prop := releaseNoneRow.holds Tryz.pinned (OpenSpec.ofChange releaseNoneSpec)

/-- ITS FALSE NEIGHBOUR: 'it returns false'. Refute it at one input. -/
def releaseNoneWrong : ChangeSpec := { name := "releaseNone", fn := fun _ => fun
  | [d1, d2] => { results := [.lit (.bool false)], args := [d1, d2] }
  | _ => none }
def ReleaseNoneWrongFalsely : Prop := releaseNoneRow.holds Tryz.pinned (OpenSpec.ofChange releaseNoneWrong)

/- THE SECOND FORM. 'bulk': how many values and letters a reading holds, each counted each time it is reached (what is shared counts as often as it is met; a slice's spare places count too). A statement '..UptoSaid' is the law's where the arguments, and the package variables that the reading takes, are together of bulk at most 1048576: NARROWER than '..Said'. Prove '..Said' where nothing that the law and all that it calls make is longer than what came in: it says more and counts as full. Else prove '..UptoSaid'. A law counts once. -/
mutual
def uptoBulk {H : Type} : DataW H → Nat
  | .lit (.string bytes) => bytes.length + 1
  | .lit _ => 1
  | .nil => 1
  | .ptr d => uptoBulk d + 1
  | .slice elems spare => uptoBulkAll elems + uptoBulkAll spare + 1
  | .agg parts => uptoBulkAll parts + 1
  | .iface _ d => uptoBulk d + 1
  | .map entries => uptoBulkEntries entries + 1
  | .held _ => 1
def uptoBulkAll {H : Type} : List (DataW H) → Nat
  | [] => 0
  | d :: r => uptoBulk d + uptoBulkAll r
def uptoBulkEntries {H : Type} : List (Lit × DataW H) → Nat
  | [] => 0
  | x :: r => uptoBulkEntry x + uptoBulkEntries r
def uptoBulkEntry {H : Type} : Lit × DataW H → Nat
  | (.string bytes, d) => bytes.length + uptoBulk d + 1
  | (_, d) => uptoBulk d + 1
 end
def uptoSmall : (H : Type) → List (DataW H) → Bool := fun _ ds => decide (uptoBulkAll ds ≤ 1048576)
def OpenSpec.upto (s : _root_.Go.ChangeSpec) : _root_.Go.OpenSpec := { _root_.Go.OpenSpec.ofChange s with cond := some uptoSmall }

/-- 'carracklaw11.ReleasePlays', WHERE WHAT IT READS IS OF BULK AT MOST 1048576: true; the input reads as it did. -/
def releasePlaysUptoRow : OpenClaim := { program := "ytcngmkfpbcemjaagreat", sum := "97892a451d2d7102b80bb5f5b85642e86e6b43cfbe81d14d70a598e880bd4c52", func := "carrack/carracklaw11.ReleasePlays", spec := "releasePlays", inPlace := ["math/bits.Add64"], unfollowed := true, recurses := true, apart := false, narrowed := true }
def ReleasePlaysUptoSaid : Prop := releasePlaysUptoRow.holds Tryz.pinned (OpenSpec.upto releasePlaysSpec)

/-- 'carracklaw11.ReleaseUndoes', WHERE WHAT IT READS IS OF BULK AT MOST 1048576: true; the input reads as it did. -/
def releaseUndoesUptoRow : OpenClaim := { program := "ytcngmkfpbcemjaagreat", sum := "97892a451d2d7102b80bb5f5b85642e86e6b43cfbe81d14d70a598e880bd4c52", func := "carrack/carracklaw11.ReleaseUndoes", spec := "releaseUndoes", inPlace := ["math/bits.Add64"], unfollowed := true, recurses := true, apart := false, narrowed := true }
def ReleaseUndoesUptoSaid : Prop := releaseUndoesUptoRow.holds Tryz.pinned (OpenSpec.upto releaseUndoesSpec)

/-- 'carracklaw11.ReleaseAll', WHERE WHAT IT READS IS OF BULK AT MOST 1048576: true; the input reads as it did. -/
def releaseAllUptoRow : OpenClaim := { program := "ytcngmkfpbcemjaagreat", sum := "97892a451d2d7102b80bb5f5b85642e86e6b43cfbe81d14d70a598e880bd4c52", func := "carrack/carracklaw11.ReleaseAll", spec := "releaseAll", inPlace := ["math/bits.Add64"], unfollowed := true, recurses := true, apart := false, narrowed := true }
def ReleaseAllUptoSaid : Prop := releaseAllUptoRow.holds Tryz.pinned (OpenSpec.upto releaseAllSpec)

/-- 'carracklaw11.ReleaseMerged', WHERE WHAT IT READS IS OF BULK AT MOST 1048576: true; the input reads as it did. -/
def releaseMergedUptoRow : OpenClaim := { program := "ytcngmkfpbcemjaagreat", sum := "97892a451d2d7102b80bb5f5b85642e86e6b43cfbe81d14d70a598e880bd4c52", func := "carrack/carracklaw11.ReleaseMerged", spec := "releaseMerged", inPlace := ["math/bits.Add64"], unfollowed := true, recurses := true, apart := false, narrowed := true }
def ReleaseMergedUptoSaid : Prop := releaseMergedUptoRow.holds Tryz.pinned (OpenSpec.upto releaseMergedSpec)

/-- 'carracklaw11.ReleaseCuts', WHERE WHAT IT READS IS OF BULK AT MOST 1048576: true; the input reads as it did. -/
def releaseCutsUptoRow : OpenClaim := { program := "ytcngmkfpbcemjaagreat", sum := "97892a451d2d7102b80bb5f5b85642e86e6b43cfbe81d14d70a598e880bd4c52", func := "carrack/carracklaw11.ReleaseCuts", spec := "releaseCuts", inPlace := ["math/bits.Add64"], unfollowed := true, recurses := true, apart := false, narrowed := true }
def ReleaseCutsUptoSaid : Prop := releaseCutsUptoRow.holds Tryz.pinned (OpenSpec.upto releaseCutsSpec)

/-- 'carracklaw11.ReleaseNone', WHERE WHAT IT READS IS OF BULK AT MOST 1048576: true; the input reads as it did. -/
def releaseNoneUptoRow : OpenClaim := { program := "ytcngmkfpbcemjaagreat", sum := "97892a451d2d7102b80bb5f5b85642e86e6b43cfbe81d14d70a598e880bd4c52", func := "carrack/carracklaw11.ReleaseNone", spec := "releaseNone", inPlace := ["math/bits.Add64"], unfollowed := true, recurses := true, apart := false, narrowed := true }
def ReleaseNoneUptoSaid : Prop := releaseNoneUptoRow.holds Tryz.pinned (OpenSpec.upto releaseNoneSpec)

end Rows
end Go.Proofs.YtcngmkfpbcemjaaGreat
