/-
  No cell of these rows narrows 'for every input' (looked for: loops, veiled, ifaces, maps, wideKeys, modest, calm, conditions, laid).
  DERIVED. THE GIVEN ROWS OF THIS SEAT. 6 by the template 'for every input the law returns true; each argument reads behind the call as it read before'; 0 by the template 'total and deterministic' (their statements: YtojkebnjohanaaaTotals.lean).
  GIVEN WITH THE SEED: the statements are not yours to turn. If you find one false, say at which input.
  Laid BY PROGRAM, IN A SANDBOX (cutbox-rows.mjs): the forced cells as the released guide's own fill.sh prints them over the translation 59ad0fa55b1a3c33… (all of the seat's roots in one cut). By AI agents, Wed Nov 11 2026. No macro, syntax, notation, axiom, sorry.
-/
import Derived.Test.YtojkebnjohanaaaChecked
import GoSem.Claim
import GoSem.ClaimJoined
import GoSem.ClaimMapViews
import Derived.JoinedTies
import Derived.KernelRfl
namespace Go.Proofs.Ytojkebnjohanaaa
/- THE CELL 'sum', in the pinned program and in every row, IS THE sha256 OF THE DUMP (.gsa) THAT YtojkebnjohanaaaProg.lean LOADS. Nothing in Lean hashes anything: it is a label: what it is worth is what the hold of that sum in a sandbox is worth. -/
noncomputable def Try.pinned : Pinned := { name := "ytojkebnjohanaaa", sum := "59ad0fa55b1a3c33440e009f49c5dd9a22f452112c1f2cc48bb1c539e9b4bbdc", checked := Try.checked }
namespace Rows
def none {H : Type} : Left H := { results := [], args := [] }

/-- 'carracklaw04.HeadFormats': WHATEVER THE INPUT: true; the input reads as it did. -/
def headFormatsSpec : ChangeSpec := { name := "headFormats", fn := fun _ => fun
  | [d1, d2] => { results := [.lit (.bool true)], args := [d1, d2] }
  | _ => none }
def headFormatsRow : OpenClaim := { program := "ytojkebnjohanaaa", sum := "59ad0fa55b1a3c33440e009f49c5dd9a22f452112c1f2cc48bb1c539e9b4bbdc", func := "carrack/carracklaw04.HeadFormats", spec := "headFormats", unfollowed := true, recurses := true, apart := false }
def HeadFormatsSaid : Prop := headFormatsRow.holds Try.pinned (OpenSpec.ofChange headFormatsSpec)

/-- ITS FALSE NEIGHBOUR: 'it returns false'. Refute it at one input. -/
def headFormatsWrong : ChangeSpec := { name := "headFormats", fn := fun _ => fun
  | [d1, d2] => { results := [.lit (.bool false)], args := [d1, d2] }
  | _ => none }
def HeadFormatsWrongFalsely : Prop := headFormatsRow.holds Try.pinned (OpenSpec.ofChange headFormatsWrong)

/-- 'carracklaw04.HeadAgain': WHATEVER THE INPUT: true; the input reads as it did. -/
def headAgainSpec : ChangeSpec := { name := "headAgain", fn := fun _ => fun
  | [d1, d2] => { results := [.lit (.bool true)], args := [d1, d2] }
  | _ => none }
def headAgainRow : OpenClaim := { program := "ytojkebnjohanaaa", sum := "59ad0fa55b1a3c33440e009f49c5dd9a22f452112c1f2cc48bb1c539e9b4bbdc", func := "carrack/carracklaw04.HeadAgain", spec := "headAgain", unfollowed := true, recurses := true, apart := false }
def HeadAgainSaid : Prop := headAgainRow.holds Try.pinned (OpenSpec.ofChange headAgainSpec)

/-- ITS FALSE NEIGHBOUR: 'it returns false'. Refute it at one input. -/
def headAgainWrong : ChangeSpec := { name := "headAgain", fn := fun _ => fun
  | [d1, d2] => { results := [.lit (.bool false)], args := [d1, d2] }
  | _ => none }
def HeadAgainWrongFalsely : Prop := headAgainRow.holds Try.pinned (OpenSpec.ofChange headAgainWrong)

/-- 'carracklaw04.HeadChecks': WHATEVER THE INPUT: true; the input reads as it did. -/
def headChecksSpec : ChangeSpec := { name := "headChecks", fn := fun _ => fun
  | [d1, d2] => { results := [.lit (.bool true)], args := [d1, d2] }
  | _ => none }
def headChecksRow : OpenClaim := { program := "ytojkebnjohanaaa", sum := "59ad0fa55b1a3c33440e009f49c5dd9a22f452112c1f2cc48bb1c539e9b4bbdc", func := "carrack/carracklaw04.HeadChecks", spec := "headChecks", unfollowed := true, recurses := true, apart := false }
def HeadChecksSaid : Prop := headChecksRow.holds Try.pinned (OpenSpec.ofChange headChecksSpec)

/-- ITS FALSE NEIGHBOUR: 'it returns false'. Refute it at one input. -/
def headChecksWrong : ChangeSpec := { name := "headChecks", fn := fun _ => fun
  | [d1, d2] => { results := [.lit (.bool false)], args := [d1, d2] }
  | _ => none }
def HeadChecksWrongFalsely : Prop := headChecksRow.holds Try.pinned (OpenSpec.ofChange headChecksWrong)

/-- 'carracklaw04.HeadOdd': WHATEVER THE INPUT: true; the input reads as it did. -/
def headOddSpec : ChangeSpec := { name := "headOdd", fn := fun _ => fun
  | [d1, d2, d3] => { results := [.lit (.bool true)], args := [d1, d2, d3] }
  | _ => none }
def headOddRow : OpenClaim := { program := "ytojkebnjohanaaa", sum := "59ad0fa55b1a3c33440e009f49c5dd9a22f452112c1f2cc48bb1c539e9b4bbdc", func := "carrack/carracklaw04.HeadOdd", spec := "headOdd", unfollowed := true, recurses := true, apart := false }
def HeadOddSaid : Prop := headOddRow.holds Try.pinned (OpenSpec.ofChange headOddSpec)

/-- ITS FALSE NEIGHBOUR: 'it returns false'. Refute it at one input. -/
def headOddWrong : ChangeSpec := { name := "headOdd", fn := fun _ => fun
  | [d1, d2, d3] => { results := [.lit (.bool false)], args := [d1, d2, d3] }
  | _ => none }
def HeadOddWrongFalsely : Prop := headOddRow.holds Try.pinned (OpenSpec.ofChange headOddWrong)

/-- 'carracklaw04.HeadMoves': WHATEVER THE INPUT: true; the input reads as it did. -/
def headMovesSpec : ChangeSpec := { name := "headMoves", fn := fun _ => fun
  | [d1, d2, d3] => { results := [.lit (.bool true)], args := [d1, d2, d3] }
  | _ => none }
def headMovesRow : OpenClaim := { program := "ytojkebnjohanaaa", sum := "59ad0fa55b1a3c33440e009f49c5dd9a22f452112c1f2cc48bb1c539e9b4bbdc", func := "carrack/carracklaw04.HeadMoves", spec := "headMoves", unfollowed := true, recurses := true, apart := false }
def HeadMovesSaid : Prop := headMovesRow.holds Try.pinned (OpenSpec.ofChange headMovesSpec)

/-- ITS FALSE NEIGHBOUR: 'it returns false'. Refute it at one input. -/
def headMovesWrong : ChangeSpec := { name := "headMoves", fn := fun _ => fun
  | [d1, d2, d3] => { results := [.lit (.bool false)], args := [d1, d2, d3] }
  | _ => none }
def HeadMovesWrongFalsely : Prop := headMovesRow.holds Try.pinned (OpenSpec.ofChange headMovesWrong)

/-- 'carracklaw04.HeadNobody': WHATEVER THE INPUT: true; the input reads as it did. -/
def headNobodySpec : ChangeSpec := { name := "headNobody", fn := fun _ => fun
  | [d1, d2] => { results := [.lit (.bool true)], args := [d1, d2] }
  | _ => none }
def headNobodyRow : OpenClaim := { program := "ytojkebnjohanaaa", sum := "59ad0fa55b1a3c33440e009f49c5dd9a22f452112c1f2cc48bb1c539e9b4bbdc", func := "carrack/carracklaw04.HeadNobody", spec := "headNobody", unfollowed := true, recurses := true, apart := false }
def HeadNobodySaid : Prop := headNobodyRow.holds Try.pinned (OpenSpec.ofChange headNobodySpec)

/-- ITS FALSE NEIGHBOUR: 'it returns false'. Refute it at one input. -/
def headNobodyWrong : ChangeSpec := { name := "headNobody", fn := fun _ => fun
  | [d1, d2] => { results := [.lit (.bool false)], args := [d1, d2] }
  | _ => none }
def HeadNobodyWrongFalsely : Prop := headNobodyRow.holds Try.pinned (OpenSpec.ofChange headNobodyWrong)

/- THE SECOND FORM. 'bulk': how many values and letters a reading holds, each counted each time it is reached (what is shared counts as often as it is met; a slice's spare places count too). A statement '..UptoSaid' is the law's where the arguments, and the package variables that the reading takes, are together of bulk at most 1048576: NARROWER than '..Said'. Prove '..Said' where nothing that the law and all that it calls make is longer than what came in: it says more and counts as full. Else prove '..UptoSaid'. A law counts once. -/
mutual
def uptoBulk {H : Type} : DataW H → Nat
  | .lit (.string bytes) => bytes.length + 1
  | .lit _ => 1
  | .nil => 1
  | .ptr d => uptoBulk d + 1
  | .slice elems spare => uptoBulkAll elems + uptoBulkAll spare + 1
  | .agg parts => uptoBulkAll parts + 1
  | .iface _ d => uptoBulk d + 1
  | .map entries => uptoBulkEntries entries + 1
  | .held _ => 1
def uptoBulkAll {H : Type} : List (DataW H) → Nat
  | [] => 0
  | d :: r => uptoBulk d + uptoBulkAll r
def uptoBulkEntries {H : Type} : List (Lit × DataW H) → Nat
  | [] => 0
  | x :: r => uptoBulkEntry x + uptoBulkEntries r
def uptoBulkEntry {H : Type} : Lit × DataW H → Nat
  | (.string bytes, d) => bytes.length + uptoBulk d + 1
  | (_, d) => uptoBulk d + 1
 end
def uptoSmall : (H : Type) → List (DataW H) → Bool := fun _ ds => decide (uptoBulkAll ds ≤ 1048576)
def OpenSpec.upto (s : _root_.Go.ChangeSpec) : _root_.Go.OpenSpec := { _root_.Go.OpenSpec.ofChange s with cond := some uptoSmall }

/-- 'carracklaw04.HeadFormats', WHERE WHAT IT READS IS OF BULK AT MOST 1048576: true; the input reads as it did. -/
def headFormatsUptoRow : OpenClaim := { program := "ytojkebnjohanaaa", sum := "59ad0fa55b1a3c33440e009f49c5dd9a22f452112c1f2cc48bb1c539e9b4bbdc", func := "carrack/carracklaw04.HeadFormats", spec := "headFormats", unfollowed := true, recurses := true, apart := false, narrowed := true }
def HeadFormatsUptoSaid : Prop := headFormatsUptoRow.holds Try.pinned (OpenSpec.upto headFormatsSpec)

/-- 'carracklaw04.HeadAgain', WHERE WHAT IT READS IS OF BULK AT MOST 1048576: true; the input reads as it did. -/
def headAgainUptoRow : OpenClaim := { program := "ytojkebnjohanaaa", sum := "59ad0fa55b1a3c33440e009f49c5dd9a22f452112c1f2cc48bb1c539e9b4bbdc", func := "carrack/carracklaw04.HeadAgain", spec := "headAgain", unfollowed := true, recurses := true, apart := false, narrowed := true }
def HeadAgainUptoSaid : Prop := headAgainUptoRow.holds Try.pinned (OpenSpec.upto headAgainSpec)

/-- 'carracklaw04.HeadChecks', WHERE WHAT IT READS IS OF BULK AT MOST 1048576: true; the input reads as it did. -/
def headChecksUptoRow : OpenClaim := { program := "ytojkebnjohanaaa", sum := "59ad0fa55b1a3c33440e009f49c5dd9a22f452112c1f2cc48bb1c539e9b4bbdc", func := "carrack/carracklaw04.HeadChecks", spec := "headChecks", unfollowed := true, recurses := true, apart := false, narrowed := true }
def HeadChecksUptoSaid : Prop := headChecksUptoRow.holds Try.pinned (OpenSpec.upto headChecksSpec)

/-- 'carracklaw04.HeadOdd', WHERE WHAT IT READS IS OF BULK AT MOST 1048576: true; the input reads as it did. -/
def headOddUptoRow : OpenClaim := { program := "ytojkebnjohanaaa", sum := "59ad0fa55b1a3c33440e009f49c5dd9a22f452112c1f2cc48bb1c539e9b4bbdc", func := "carrack/carracklaw04.HeadOdd", spec := "headOdd", unfollowed := true, recurses := true, apart := false, narrowed := true }
def HeadOddUptoSaid : Prop := headOddUptoRow.holds Try.pinned (OpenSpec.upto headOddSpec)

/-- 'carracklaw04.HeadMoves', WHERE WHAT IT READS IS OF BULK AT MOST 1048576: true; the input reads as it did. -/
def headMovesUptoRow : OpenClaim := { program := "ytojkebnjohanaaa", sum := "59ad0fa55b1a3c33440e009f49c5dd9a22f452112c1f2cc48bb1c539e9b4bbdc", func := "carrack/carracklaw04.HeadMoves", spec := "headMoves", unfollowed := true, recurses := true, apart := false, narrowed := true }
def HeadMovesUptoSaid : Prop := headMovesUptoRow.holds Try.pinned (OpenSpec.upto headMovesSpec)

/-- 'carracklaw04.HeadNobody', WHERE WHAT IT READS IS OF BULK AT MOST 1048576: true; the input reads as it did. -/
def headNobodyUptoRow : OpenClaim := { program := "ytojkebnjohanaaa", sum := "59ad0fa55b1a3c33440e009f49c5dd9a22f452112c1f2cc48bb1c539e9b4bbdc", func := "carrack/carracklaw04.HeadNobody", spec := "headNobody", unfollowed := true, recurses := true, apart := false, narrowed := true }
def HeadNobodyUptoSaid : Prop := headNobodyUptoRow.holds Try.pinned (OpenSpec.upto headNobodySpec)

end Rows
end Go.Proofs.Ytojkebnjohanaaa
