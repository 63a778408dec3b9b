/-
  No cell of these rows narrows 'for every input' (looked for: loops, veiled, ifaces, maps, wideKeys, modest, calm, conditions, laid).
  DERIVED. THE GIVEN ROWS OF THIS SEAT. 6 by the template 'for every input the law returns true; each argument reads behind the call as it read before'; 0 by the template 'total and deterministic' (their statements: YtinkfichgknifaaTotals.lean).
  GIVEN WITH THE SEED: the statements are not yours to turn. If you find one false, say at which input.
  Laid BY PROGRAM, IN A SANDBOX (cutbox-rows.mjs): the forced cells as the released guide's own fill.sh prints them over the translation c6182d40e73cf31a… (all of the seat's roots in one cut). By AI agents, Wed Nov 11 2026. No macro, syntax, notation, axiom, sorry.
-/
import Derived.Test.YtinkfichgknifaaChecked
import GoSem.Claim
import GoSem.ClaimJoined
import GoSem.ClaimMapViews
import Derived.JoinedTies
import Derived.KernelRfl
namespace Go.Proofs.Ytinkfichgknifaa
/- THE CELL 'sum', in the pinned program and in every row, IS THE sha256 OF THE DUMP (.gsa) THAT YtinkfichgknifaaProg.lean LOADS. Nothing in Lean hashes anything: it is a label: what it is worth is what the hold of that sum in a sandbox is worth. -/
noncomputable def Try.pinned : Pinned := { name := "ytinkfichgknifaa", sum := "c6182d40e73cf31a5a63465f01210b2d3700a16850cf3a2dbbc05295bb567bbc", checked := Try.checked }
namespace Rows
def none {H : Type} : Left H := { results := [], args := [] }

/-- 'carracklaw03.TxPlays': WHATEVER THE INPUT: true; the input reads as it did. -/
def txPlaysSpec : ChangeSpec := { name := "txPlays", fn := fun _ => fun
  | [d1, d2, d3] => { results := [.lit (.bool true)], args := [d1, d2, d3] }
  | _ => none }
def txPlaysRow : OpenClaim := { program := "ytinkfichgknifaa", sum := "c6182d40e73cf31a5a63465f01210b2d3700a16850cf3a2dbbc05295bb567bbc", func := "carrack/carracklaw03.TxPlays", spec := "txPlays", unfollowed := true, recurses := true, apart := false }
def TxPlaysSaid : Prop := txPlaysRow.holds Try.pinned (OpenSpec.ofChange txPlaysSpec)

/-- ITS FALSE NEIGHBOUR: 'it returns false'. Refute it at one input. -/
def txPlaysWrong : ChangeSpec := { name := "txPlays", fn := fun _ => fun
  | [d1, d2, d3] => { results := [.lit (.bool false)], args := [d1, d2, d3] }
  | _ => none }
def TxPlaysWrongFalsely : Prop := txPlaysRow.holds Try.pinned (OpenSpec.ofChange txPlaysWrong)

/-- 'carracklaw03.TxApplies': WHATEVER THE INPUT: true; the input reads as it did. -/
def txAppliesSpec : ChangeSpec := { name := "txApplies", fn := fun _ => fun
  | [d1, d2] => { results := [.lit (.bool true)], args := [d1, d2] }
  | _ => none }
def txAppliesRow : OpenClaim := { program := "ytinkfichgknifaa", sum := "c6182d40e73cf31a5a63465f01210b2d3700a16850cf3a2dbbc05295bb567bbc", func := "carrack/carracklaw03.TxApplies", spec := "txApplies", unfollowed := true, recurses := true, apart := false }
def TxAppliesSaid : Prop := txAppliesRow.holds Try.pinned (OpenSpec.ofChange txAppliesSpec)

/-- ITS FALSE NEIGHBOUR: 'it returns false'. Refute it at one input. -/
def txAppliesWrong : ChangeSpec := { name := "txApplies", fn := fun _ => fun
  | [d1, d2] => { results := [.lit (.bool false)], args := [d1, d2] }
  | _ => none }
def TxAppliesWrongFalsely : Prop := txAppliesRow.holds Try.pinned (OpenSpec.ofChange txAppliesWrong)

/-- 'carracklaw03.TxOnce': WHATEVER THE INPUT: true; the input reads as it did. -/
def txOnceSpec : ChangeSpec := { name := "txOnce", fn := fun _ => fun
  | [d1, d2] => { results := [.lit (.bool true)], args := [d1, d2] }
  | _ => none }
def txOnceRow : OpenClaim := { program := "ytinkfichgknifaa", sum := "c6182d40e73cf31a5a63465f01210b2d3700a16850cf3a2dbbc05295bb567bbc", func := "carrack/carracklaw03.TxOnce", spec := "txOnce", unfollowed := true, recurses := true, apart := false }
def TxOnceSaid : Prop := txOnceRow.holds Try.pinned (OpenSpec.ofChange txOnceSpec)

/-- ITS FALSE NEIGHBOUR: 'it returns false'. Refute it at one input. -/
def txOnceWrong : ChangeSpec := { name := "txOnce", fn := fun _ => fun
  | [d1, d2] => { results := [.lit (.bool false)], args := [d1, d2] }
  | _ => none }
def TxOnceWrongFalsely : Prop := txOnceRow.holds Try.pinned (OpenSpec.ofChange txOnceWrong)

/-- 'carracklaw03.TxJoins': WHATEVER THE INPUT: true; the input reads as it did. -/
def txJoinsSpec : ChangeSpec := { name := "txJoins", fn := fun _ => fun
  | [d1, d2, d3] => { results := [.lit (.bool true)], args := [d1, d2, d3] }
  | _ => none }
def txJoinsRow : OpenClaim := { program := "ytinkfichgknifaa", sum := "c6182d40e73cf31a5a63465f01210b2d3700a16850cf3a2dbbc05295bb567bbc", func := "carrack/carracklaw03.TxJoins", spec := "txJoins", unfollowed := true, recurses := true, apart := false }
def TxJoinsSaid : Prop := txJoinsRow.holds Try.pinned (OpenSpec.ofChange txJoinsSpec)

/-- ITS FALSE NEIGHBOUR: 'it returns false'. Refute it at one input. -/
def txJoinsWrong : ChangeSpec := { name := "txJoins", fn := fun _ => fun
  | [d1, d2, d3] => { results := [.lit (.bool false)], args := [d1, d2, d3] }
  | _ => none }
def TxJoinsWrongFalsely : Prop := txJoinsRow.holds Try.pinned (OpenSpec.ofChange txJoinsWrong)

/-- 'carracklaw03.TxLater': WHATEVER THE INPUT: true; the input reads as it did. -/
def txLaterSpec : ChangeSpec := { name := "txLater", fn := fun _ => fun
  | [d1, d2] => { results := [.lit (.bool true)], args := [d1, d2] }
  | _ => none }
def txLaterRow : OpenClaim := { program := "ytinkfichgknifaa", sum := "c6182d40e73cf31a5a63465f01210b2d3700a16850cf3a2dbbc05295bb567bbc", func := "carrack/carracklaw03.TxLater", spec := "txLater", unfollowed := true, recurses := true, apart := false }
def TxLaterSaid : Prop := txLaterRow.holds Try.pinned (OpenSpec.ofChange txLaterSpec)

/-- ITS FALSE NEIGHBOUR: 'it returns false'. Refute it at one input. -/
def txLaterWrong : ChangeSpec := { name := "txLater", fn := fun _ => fun
  | [d1, d2] => { results := [.lit (.bool false)], args := [d1, d2] }
  | _ => none }
def TxLaterWrongFalsely : Prop := txLaterRow.holds Try.pinned (OpenSpec.ofChange txLaterWrong)

/-- 'carracklaw03.TxNobody': WHATEVER THE INPUT: true; the input reads as it did. -/
def txNobodySpec : ChangeSpec := { name := "txNobody", fn := fun _ => fun
  | [d] => { results := [.lit (.bool true)], args := [d] }
  | _ => none }
def txNobodyRow : OpenClaim := { program := "ytinkfichgknifaa", sum := "c6182d40e73cf31a5a63465f01210b2d3700a16850cf3a2dbbc05295bb567bbc", func := "carrack/carracklaw03.TxNobody", spec := "txNobody", unfollowed := true, recurses := true, apart := false }
def TxNobodySaid : Prop := txNobodyRow.holds Try.pinned (OpenSpec.ofChange txNobodySpec)

/-- ITS FALSE NEIGHBOUR: 'it returns false'. Refute it at one input. -/
def txNobodyWrong : ChangeSpec := { name := "txNobody", fn := fun _ => fun
  | [d] => { results := [.lit (.bool false)], args := [d] }
  | _ => none }
def TxNobodyWrongFalsely : Prop := txNobodyRow.holds Try.pinned (OpenSpec.ofChange txNobodyWrong)

/- THE SECOND FORM. 'bulk': how many values and letters a reading holds, each counted each time it is reached (what is shared counts as often as it is met; a slice's spare places count too). A statement '..UptoSaid' is the law's where the arguments, and the package variables that the reading takes, are together of bulk at most 1048576: NARROWER than '..Said'. Prove '..Said' where nothing that the law and all that it calls make is longer than what came in: it says more and counts as full. Else prove '..UptoSaid'. A law counts once. -/
mutual
def uptoBulk {H : Type} : DataW H → Nat
  | .lit (.string bytes) => bytes.length + 1
  | .lit _ => 1
  | .nil => 1
  | .ptr d => uptoBulk d + 1
  | .slice elems spare => uptoBulkAll elems + uptoBulkAll spare + 1
  | .agg parts => uptoBulkAll parts + 1
  | .iface _ d => uptoBulk d + 1
  | .map entries => uptoBulkEntries entries + 1
  | .held _ => 1
def uptoBulkAll {H : Type} : List (DataW H) → Nat
  | [] => 0
  | d :: r => uptoBulk d + uptoBulkAll r
def uptoBulkEntries {H : Type} : List (Lit × DataW H) → Nat
  | [] => 0
  | x :: r => uptoBulkEntry x + uptoBulkEntries r
def uptoBulkEntry {H : Type} : Lit × DataW H → Nat
  | (.string bytes, d) => bytes.length + uptoBulk d + 1
  | (_, d) => uptoBulk d + 1
 end
def uptoSmall : (H : Type) → List (DataW H) → Bool := fun _ ds => decide (uptoBulkAll ds ≤ 1048576)
def OpenSpec.upto (s : _root_.Go.ChangeSpec) : _root_.Go.OpenSpec := { _root_.Go.OpenSpec.ofChange s with cond := some uptoSmall }

/-- 'carracklaw03.TxPlays', WHERE WHAT IT READS IS OF BULK AT MOST 1048576: true; the input reads as it did. -/
def txPlaysUptoRow : OpenClaim := { program := "ytinkfichgknifaa", sum := "c6182d40e73cf31a5a63465f01210b2d3700a16850cf3a2dbbc05295bb567bbc", func := "carrack/carracklaw03.TxPlays", spec := "txPlays", unfollowed := true, recurses := true, apart := false, narrowed := true }
def TxPlaysUptoSaid : Prop := txPlaysUptoRow.holds Try.pinned (OpenSpec.upto txPlaysSpec)

/-- 'carracklaw03.TxApplies', WHERE WHAT IT READS IS OF BULK AT MOST 1048576: true; the input reads as it did. -/
def txAppliesUptoRow : OpenClaim := { program := "ytinkfichgknifaa", sum := "c6182d40e73cf31a5a63465f01210b2d3700a16850cf3a2dbbc05295bb567bbc", func := "carrack/carracklaw03.TxApplies", spec := "txApplies", unfollowed := true, recurses := true, apart := false, narrowed := true }
def TxAppliesUptoSaid : Prop := txAppliesUptoRow.holds Try.pinned (OpenSpec.upto txAppliesSpec)

/-- 'carracklaw03.TxOnce', WHERE WHAT IT READS IS OF BULK AT MOST 1048576: true; the input reads as it did. -/
def txOnceUptoRow : OpenClaim := { program := "ytinkfichgknifaa", sum := "c6182d40e73cf31a5a63465f01210b2d3700a16850cf3a2dbbc05295bb567bbc", func := "carrack/carracklaw03.TxOnce", spec := "txOnce", unfollowed := true, recurses := true, apart := false, narrowed := true }
def TxOnceUptoSaid : Prop := txOnceUptoRow.holds Try.pinned (OpenSpec.upto txOnceSpec)

/-- 'carracklaw03.TxJoins', WHERE WHAT IT READS IS OF BULK AT MOST 1048576: true; the input reads as it did. -/
def txJoinsUptoRow : OpenClaim := { program := "ytinkfichgknifaa", sum := "c6182d40e73cf31a5a63465f01210b2d3700a16850cf3a2dbbc05295bb567bbc", func := "carrack/carracklaw03.TxJoins", spec := "txJoins", unfollowed := true, recurses := true, apart := false, narrowed := true }
def TxJoinsUptoSaid : Prop := txJoinsUptoRow.holds Try.pinned (OpenSpec.upto txJoinsSpec)

/-- 'carracklaw03.TxLater', WHERE WHAT IT READS IS OF BULK AT MOST 1048576: true; the input reads as it did. -/
def txLaterUptoRow : OpenClaim := { program := "ytinkfichgknifaa", sum := "c6182d40e73cf31a5a63465f01210b2d3700a16850cf3a2dbbc05295bb567bbc", func := "carrack/carracklaw03.TxLater", spec := "txLater", unfollowed := true, recurses := true, apart := false, narrowed := true }
def TxLaterUptoSaid : Prop := txLaterUptoRow.holds Try.pinned (OpenSpec.upto txLaterSpec)

/-- 'carracklaw03.TxNobody', WHERE WHAT IT READS IS OF BULK AT MOST 1048576: true; the input reads as it did. -/
def txNobodyUptoRow : OpenClaim := { program := "ytinkfichgknifaa", sum := "c6182d40e73cf31a5a63465f01210b2d3700a16850cf3a2dbbc05295bb567bbc", func := "carrack/carracklaw03.TxNobody", spec := "txNobody", unfollowed := true, recurses := true, apart := false, narrowed := true }
def TxNobodyUptoSaid : Prop := txNobodyUptoRow.holds Try.pinned (OpenSpec.upto txNobodySpec)

end Rows
end Go.Proofs.Ytinkfichgknifaa
