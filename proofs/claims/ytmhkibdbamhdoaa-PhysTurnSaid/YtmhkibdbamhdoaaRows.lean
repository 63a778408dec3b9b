/-
  No cell of these rows narrows 'for every input' (looked for: loops, veiled, ifaces, maps, wideKeys, modest, calm, conditions, laid).
  DERIVED. THE GIVEN ROWS OF THIS SEAT. 6 by the template 'for every input the law returns true; each argument reads behind the call as it read before'; 0 by the template 'total and deterministic' (their statements: YtmhkibdbamhdoaaTotals.lean).
  GIVEN WITH THE SEED: the statements are not yours to turn. If you find one false, say at which input.
  Laid BY PROGRAM, IN A SANDBOX (cutbox-rows.mjs): the forced cells as the released guide's own fill.sh prints them over the translation be1a513685cd5251… (all of the seat's roots in one cut). By AI agents, Wed Nov 11 2026. No macro, syntax, notation, axiom, sorry.
-/
import Derived.Test.YtmhkibdbamhdoaaChecked
import GoSem.Claim
import GoSem.ClaimJoined
import GoSem.ClaimMapViews
import Derived.JoinedTies
import Derived.KernelRfl
namespace Go.Proofs.Ytmhkibdbamhdoaa
/- THE CELL 'sum', in the pinned program and in every row, IS THE sha256 OF THE DUMP (.gsa) THAT YtmhkibdbamhdoaaProg.lean LOADS. Nothing in Lean hashes anything: it is a label: what it is worth is what the hold of that sum in a sandbox is worth. -/
noncomputable def Try.pinned : Pinned := { name := "ytmhkibdbamhdoaa", sum := "be1a513685cd5251f05d683e691056a1c372af48ad586e2624e5bb2fa2263a8c", checked := Try.checked }
namespace Rows
def none {H : Type} : Left H := { results := [], args := [] }

/-- 'carracklaw06.PhysWalks': WHATEVER THE INPUT: true; the input reads as it did. -/
def physWalksSpec : ChangeSpec := { name := "physWalks", fn := fun _ => fun
  | [d1, d2, d3] => { results := [.lit (.bool true)], args := [d1, d2, d3] }
  | _ => none }
def physWalksRow : OpenClaim := { program := "ytmhkibdbamhdoaa", sum := "be1a513685cd5251f05d683e691056a1c372af48ad586e2624e5bb2fa2263a8c", func := "carrack/carracklaw06.PhysWalks", spec := "physWalks", inPlace := ["math/bits.Add64"], unfollowed := true, recurses := true, apart := false }
def PhysWalksSaid : Prop := physWalksRow.holds Try.pinned (OpenSpec.ofChange physWalksSpec)

/-- ITS FALSE NEIGHBOUR: 'it returns false'. Refute it at one input. -/
def physWalksWrong : ChangeSpec := { name := "physWalks", fn := fun _ => fun
  | [d1, d2, d3] => { results := [.lit (.bool false)], args := [d1, d2, d3] }
  | _ => none }
def PhysWalksWrongFalsely : Prop := physWalksRow.holds Try.pinned (OpenSpec.ofChange physWalksWrong)

/-- 'carracklaw06.PhysRaw': WHATEVER THE INPUT: true; the input reads as it did. -/
def physRawSpec : ChangeSpec := { name := "physRaw", fn := fun _ => fun
  | [d1, d2] => { results := [.lit (.bool true)], args := [d1, d2] }
  | _ => none }
def physRawRow : OpenClaim := { program := "ytmhkibdbamhdoaa", sum := "be1a513685cd5251f05d683e691056a1c372af48ad586e2624e5bb2fa2263a8c", func := "carrack/carracklaw06.PhysRaw", spec := "physRaw", inPlace := ["math/bits.Add64"], unfollowed := true, recurses := true, apart := false }
def PhysRawSaid : Prop := physRawRow.holds Try.pinned (OpenSpec.ofChange physRawSpec)

/-- ITS FALSE NEIGHBOUR: 'it returns false'. Refute it at one input. -/
def physRawWrong : ChangeSpec := { name := "physRaw", fn := fun _ => fun
  | [d1, d2] => { results := [.lit (.bool false)], args := [d1, d2] }
  | _ => none }
def PhysRawWrongFalsely : Prop := physRawRow.holds Try.pinned (OpenSpec.ofChange physRawWrong)

/-- 'carracklaw06.PhysSums': WHATEVER THE INPUT: true; the input reads as it did. -/
def physSumsSpec : ChangeSpec := { name := "physSums", fn := fun _ => fun
  | [d] => { results := [.lit (.bool true)], args := [d] }
  | _ => none }
def physSumsRow : OpenClaim := { program := "ytmhkibdbamhdoaa", sum := "be1a513685cd5251f05d683e691056a1c372af48ad586e2624e5bb2fa2263a8c", func := "carrack/carracklaw06.PhysSums", spec := "physSums", inPlace := ["math/bits.Add64"], unfollowed := true, recurses := true, apart := false }
def PhysSumsSaid : Prop := physSumsRow.holds Try.pinned (OpenSpec.ofChange physSumsSpec)

/-- ITS FALSE NEIGHBOUR: 'it returns false'. Refute it at one input. -/
def physSumsWrong : ChangeSpec := { name := "physSums", fn := fun _ => fun
  | [d] => { results := [.lit (.bool false)], args := [d] }
  | _ => none }
def PhysSumsWrongFalsely : Prop := physSumsRow.holds Try.pinned (OpenSpec.ofChange physSumsWrong)

/-- 'carracklaw06.PhysFinds': WHATEVER THE INPUT: true; the input reads as it did. -/
def physFindsSpec : ChangeSpec := { name := "physFinds", fn := fun _ => fun
  | [d1, d2] => { results := [.lit (.bool true)], args := [d1, d2] }
  | _ => none }
def physFindsRow : OpenClaim := { program := "ytmhkibdbamhdoaa", sum := "be1a513685cd5251f05d683e691056a1c372af48ad586e2624e5bb2fa2263a8c", func := "carrack/carracklaw06.PhysFinds", spec := "physFinds", inPlace := ["math/bits.Add64"], unfollowed := true, recurses := true, apart := false }
def PhysFindsSaid : Prop := physFindsRow.holds Try.pinned (OpenSpec.ofChange physFindsSpec)

/-- ITS FALSE NEIGHBOUR: 'it returns false'. Refute it at one input. -/
def physFindsWrong : ChangeSpec := { name := "physFinds", fn := fun _ => fun
  | [d1, d2] => { results := [.lit (.bool false)], args := [d1, d2] }
  | _ => none }
def PhysFindsWrongFalsely : Prop := physFindsRow.holds Try.pinned (OpenSpec.ofChange physFindsWrong)

/-- 'carracklaw06.PhysBeside': WHATEVER THE INPUT: true; the input reads as it did. -/
def physBesideSpec : ChangeSpec := { name := "physBeside", fn := fun _ => fun
  | [d1, d2] => { results := [.lit (.bool true)], args := [d1, d2] }
  | _ => none }
def physBesideRow : OpenClaim := { program := "ytmhkibdbamhdoaa", sum := "be1a513685cd5251f05d683e691056a1c372af48ad586e2624e5bb2fa2263a8c", func := "carrack/carracklaw06.PhysBeside", spec := "physBeside", inPlace := ["math/bits.Add64"], unfollowed := true, recurses := true, apart := false }
def PhysBesideSaid : Prop := physBesideRow.holds Try.pinned (OpenSpec.ofChange physBesideSpec)

/-- ITS FALSE NEIGHBOUR: 'it returns false'. Refute it at one input. -/
def physBesideWrong : ChangeSpec := { name := "physBeside", fn := fun _ => fun
  | [d1, d2] => { results := [.lit (.bool false)], args := [d1, d2] }
  | _ => none }
def PhysBesideWrongFalsely : Prop := physBesideRow.holds Try.pinned (OpenSpec.ofChange physBesideWrong)

/-- 'carracklaw06.PhysTurn': WHATEVER THE INPUT: true; the input reads as it did. -/
def physTurnSpec : ChangeSpec := { name := "physTurn", fn := fun _ => fun
  | [d] => { results := [.lit (.bool true)], args := [d] }
  | _ => none }
def physTurnRow : OpenClaim := { program := "ytmhkibdbamhdoaa", sum := "be1a513685cd5251f05d683e691056a1c372af48ad586e2624e5bb2fa2263a8c", func := "carrack/carracklaw06.PhysTurn", spec := "physTurn", inPlace := ["math/bits.Add64"], unfollowed := true, recurses := true, apart := false }
def PhysTurnSaid : Prop := physTurnRow.holds Try.pinned (OpenSpec.ofChange physTurnSpec)

/-- ITS FALSE NEIGHBOUR: 'it returns false'. Refute it at one input. -/
def physTurnWrong : ChangeSpec := { name := "physTurn", fn := fun _ => fun
  | [d] => { results := [.lit (.bool false)], args := [d] }
  | _ => none }
def PhysTurnWrongFalsely : Prop := physTurnRow.holds Try.pinned (OpenSpec.ofChange physTurnWrong)

/- THE SECOND FORM. 'bulk': how many values and letters a reading holds, each counted each time it is reached (what is shared counts as often as it is met; a slice's spare places count too). A statement '..UptoSaid' is the law's where the arguments, and the package variables that the reading takes, are together of bulk at most 1048576: NARROWER than '..Said'. Prove '..Said' where nothing that the law and all that it calls make is longer than what came in: it says more and counts as full. Else prove '..UptoSaid'. A law counts once. -/
mutual
def uptoBulk {H : Type} : DataW H → Nat
  | .lit (.string bytes) => bytes.length + 1
  | .lit _ => 1
  | .nil => 1
  | .ptr d => uptoBulk d + 1
  | .slice elems spare => uptoBulkAll elems + uptoBulkAll spare + 1
  | .agg parts => uptoBulkAll parts + 1
  | .iface _ d => uptoBulk d + 1
  | .map entries => uptoBulkEntries entries + 1
  | .held _ => 1
def uptoBulkAll {H : Type} : List (DataW H) → Nat
  | [] => 0
  | d :: r => uptoBulk d + uptoBulkAll r
def uptoBulkEntries {H : Type} : List (Lit × DataW H) → Nat
  | [] => 0
  | x :: r => uptoBulkEntry x + uptoBulkEntries r
def uptoBulkEntry {H : Type} : Lit × DataW H → Nat
  | (.string bytes, d) => bytes.length + uptoBulk d + 1
  | (_, d) => uptoBulk d + 1
 end
def uptoSmall : (H : Type) → List (DataW H) → Bool := fun _ ds => decide (uptoBulkAll ds ≤ 1048576)
def OpenSpec.upto (s : _root_.Go.ChangeSpec) : _root_.Go.OpenSpec := { _root_.Go.OpenSpec.ofChange s with cond := some uptoSmall }

/-- 'carracklaw06.PhysWalks', WHERE WHAT IT READS IS OF BULK AT MOST 1048576: true; the input reads as it did. -/
def physWalksUptoRow : OpenClaim := { program := "ytmhkibdbamhdoaa", sum := "be1a513685cd5251f05d683e691056a1c372af48ad586e2624e5bb2fa2263a8c", func := "carrack/carracklaw06.PhysWalks", spec := "physWalks", inPlace := ["math/bits.Add64"], unfollowed := true, recurses := true, apart := false, narrowed := true }
def PhysWalksUptoSaid : Prop := physWalksUptoRow.holds Try.pinned (OpenSpec.upto physWalksSpec)

/-- 'carracklaw06.PhysRaw', WHERE WHAT IT READS IS OF BULK AT MOST 1048576: true; the input reads as it did. -/
def physRawUptoRow : OpenClaim := { program := "ytmhkibdbamhdoaa", sum := "be1a513685cd5251f05d683e691056a1c372af48ad586e2624e5bb2fa2263a8c", func := "carrack/carracklaw06.PhysRaw", spec := "physRaw", inPlace := ["math/bits.Add64"], unfollowed := true, recurses := true, apart := false, narrowed := true }
def PhysRawUptoSaid : Prop := physRawUptoRow.holds Try.pinned (OpenSpec.upto physRawSpec)

/-- 'carracklaw06.PhysSums', WHERE WHAT IT READS IS OF BULK AT MOST 1048576: true; the input reads as it did. -/
def physSumsUptoRow : OpenClaim := { program := "ytmhkibdbamhdoaa", sum := "be1a513685cd5251f05d683e691056a1c372af48ad586e2624e5bb2fa2263a8c", func := "carrack/carracklaw06.PhysSums", spec := "physSums", inPlace := ["math/bits.Add64"], unfollowed := true, recurses := true, apart := false, narrowed := true }
def PhysSumsUptoSaid : Prop := physSumsUptoRow.holds Try.pinned (OpenSpec.upto physSumsSpec)

/-- 'carracklaw06.PhysFinds', WHERE WHAT IT READS IS OF BULK AT MOST 1048576: true; the input reads as it did. -/
def physFindsUptoRow : OpenClaim := { program := "ytmhkibdbamhdoaa", sum := "be1a513685cd5251f05d683e691056a1c372af48ad586e2624e5bb2fa2263a8c", func := "carrack/carracklaw06.PhysFinds", spec := "physFinds", inPlace := ["math/bits.Add64"], unfollowed := true, recurses := true, apart := false, narrowed := true }
def PhysFindsUptoSaid : Prop := physFindsUptoRow.holds Try.pinned (OpenSpec.upto physFindsSpec)

/-- 'carracklaw06.PhysBeside', WHERE WHAT IT READS IS OF BULK AT MOST 1048576: true; the input reads as it did. -/
def physBesideUptoRow : OpenClaim := { program := "ytmhkibdbamhdoaa", sum := "be1a513685cd5251f05d683e691056a1c372af48ad586e2624e5bb2fa2263a8c", func := "carrack/carracklaw06.PhysBeside", spec := "physBeside", inPlace := ["math/bits.Add64"], unfollowed := true, recurses := true, apart := false, narrowed := true }
def PhysBesideUptoSaid : Prop := physBesideUptoRow.holds Try.pinned (OpenSpec.upto physBesideSpec)

/-- 'carracklaw06.PhysTurn', WHERE WHAT IT READS IS OF BULK AT MOST 1048576: true; the input reads as it did. -/
def physTurnUptoRow : OpenClaim := { program := "ytmhkibdbamhdoaa", sum := "be1a513685cd5251f05d683e691056a1c372af48ad586e2624e5bb2fa2263a8c", func := "carrack/carracklaw06.PhysTurn", spec := "physTurn", inPlace := ["math/bits.Add64"], unfollowed := true, recurses := true, apart := false, narrowed := true }
def PhysTurnUptoSaid : Prop := physTurnUptoRow.holds Try.pinned (OpenSpec.upto physTurnSpec)

end Rows
end Go.Proofs.Ytmhkibdbamhdoaa
