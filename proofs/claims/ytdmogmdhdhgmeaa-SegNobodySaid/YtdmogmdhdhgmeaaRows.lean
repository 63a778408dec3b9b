/-
  No cell of these rows narrows 'for every input' (looked for: loops, veiled, ifaces, maps, wideKeys, modest, calm, conditions, laid).
  DERIVED. THE GIVEN ROWS OF THIS SEAT. 5 by the template 'for every input the law returns true; each argument reads behind the call as it read before'; 0 by the template 'total and deterministic' (their statements: YtdmogmdhdhgmeaaTotals.lean).
  GIVEN WITH THE SEED: the statements are not yours to turn. If you find one false, say at which input.
  Laid BY PROGRAM, IN A SANDBOX (cutbox-rows.mjs): the forced cells as the released guide's own fill.sh prints them over the translation cbc00daccabd7806… (all of the seat's roots in one cut). By AI agents, Wed Nov 11 2026. No macro, syntax, notation, axiom, sorry.
-/
import Derived.Test.YtdmogmdhdhgmeaaChecked
import GoSem.Claim
import GoSem.ClaimJoined
import GoSem.ClaimMapViews
import Derived.JoinedTies
import Derived.KernelRfl
namespace Go.Proofs.Ytdmogmdhdhgmeaa
/- THE CELL 'sum', in the pinned program and in every row, IS THE sha256 OF THE DUMP (.gsa) THAT YtdmogmdhdhgmeaaProg.lean LOADS. Nothing in Lean hashes anything: it is a label: what it is worth is what the hold of that sum in a sandbox is worth. -/
noncomputable def Try.pinned : Pinned := { name := "ytdmogmdhdhgmeaa", sum := "cbc00daccabd7806f16b05bb6293492135af0f212ac42125a1b7d65cc9f28b25", checked := Try.checked }
namespace Rows
def none {H : Type} : Left H := { results := [], args := [] }

/-- 'carracklaw02.SegAll': WHATEVER THE INPUT: true; the input reads as it did. -/
def segAllSpec : ChangeSpec := { name := "segAll", fn := fun _ => fun
  | [d1, d2] => { results := [.lit (.bool true)], args := [d1, d2] }
  | _ => none }
def segAllRow : OpenClaim := { program := "ytdmogmdhdhgmeaa", sum := "cbc00daccabd7806f16b05bb6293492135af0f212ac42125a1b7d65cc9f28b25", func := "carrack/carracklaw02.SegAll", spec := "segAll", unfollowed := true, recurses := true, apart := false }
def SegAllSaid : Prop := segAllRow.holds Try.pinned (OpenSpec.ofChange segAllSpec)

/-- ITS FALSE NEIGHBOUR: 'it returns false'. Refute it at one input. -/
def segAllWrong : ChangeSpec := { name := "segAll", fn := fun _ => fun
  | [d1, d2] => { results := [.lit (.bool false)], args := [d1, d2] }
  | _ => none }
def SegAllWrongFalsely : Prop := segAllRow.holds Try.pinned (OpenSpec.ofChange segAllWrong)

/-- 'carracklaw02.SegStays': WHATEVER THE INPUT: true; the input reads as it did. -/
def segStaysSpec : ChangeSpec := { name := "segStays", fn := fun _ => fun
  | [d1, d2, d3] => { results := [.lit (.bool true)], args := [d1, d2, d3] }
  | _ => none }
def segStaysRow : OpenClaim := { program := "ytdmogmdhdhgmeaa", sum := "cbc00daccabd7806f16b05bb6293492135af0f212ac42125a1b7d65cc9f28b25", func := "carrack/carracklaw02.SegStays", spec := "segStays", unfollowed := true, recurses := true, apart := false }
def SegStaysSaid : Prop := segStaysRow.holds Try.pinned (OpenSpec.ofChange segStaysSpec)

/-- ITS FALSE NEIGHBOUR: 'it returns false'. Refute it at one input. -/
def segStaysWrong : ChangeSpec := { name := "segStays", fn := fun _ => fun
  | [d1, d2, d3] => { results := [.lit (.bool false)], args := [d1, d2, d3] }
  | _ => none }
def SegStaysWrongFalsely : Prop := segStaysRow.holds Try.pinned (OpenSpec.ofChange segStaysWrong)

/-- 'carracklaw02.SegDiff': WHATEVER THE INPUT: true; the input reads as it did. -/
def segDiffSpec : ChangeSpec := { name := "segDiff", fn := fun _ => fun
  | [d1, d2, d3] => { results := [.lit (.bool true)], args := [d1, d2, d3] }
  | _ => none }
def segDiffRow : OpenClaim := { program := "ytdmogmdhdhgmeaa", sum := "cbc00daccabd7806f16b05bb6293492135af0f212ac42125a1b7d65cc9f28b25", func := "carrack/carracklaw02.SegDiff", spec := "segDiff", unfollowed := true, recurses := true, apart := false }
def SegDiffSaid : Prop := segDiffRow.holds Try.pinned (OpenSpec.ofChange segDiffSpec)

/-- ITS FALSE NEIGHBOUR: 'it returns false'. Refute it at one input. -/
def segDiffWrong : ChangeSpec := { name := "segDiff", fn := fun _ => fun
  | [d1, d2, d3] => { results := [.lit (.bool false)], args := [d1, d2, d3] }
  | _ => none }
def SegDiffWrongFalsely : Prop := segDiffRow.holds Try.pinned (OpenSpec.ofChange segDiffWrong)

/-- 'carracklaw02.SegCopies': WHATEVER THE INPUT: true; the input reads as it did. -/
def segCopiesSpec : ChangeSpec := { name := "segCopies", fn := fun _ => fun
  | [d1, d2, d3] => { results := [.lit (.bool true)], args := [d1, d2, d3] }
  | _ => none }
def segCopiesRow : OpenClaim := { program := "ytdmogmdhdhgmeaa", sum := "cbc00daccabd7806f16b05bb6293492135af0f212ac42125a1b7d65cc9f28b25", func := "carrack/carracklaw02.SegCopies", spec := "segCopies", unfollowed := true, recurses := true, apart := false }
def SegCopiesSaid : Prop := segCopiesRow.holds Try.pinned (OpenSpec.ofChange segCopiesSpec)

/-- ITS FALSE NEIGHBOUR: 'it returns false'. Refute it at one input. -/
def segCopiesWrong : ChangeSpec := { name := "segCopies", fn := fun _ => fun
  | [d1, d2, d3] => { results := [.lit (.bool false)], args := [d1, d2, d3] }
  | _ => none }
def SegCopiesWrongFalsely : Prop := segCopiesRow.holds Try.pinned (OpenSpec.ofChange segCopiesWrong)

/-- 'carracklaw02.SegNobody': WHATEVER THE INPUT: true; the input reads as it did. -/
def segNobodySpec : ChangeSpec := { name := "segNobody", fn := fun _ => fun
  | [d1, d2] => { results := [.lit (.bool true)], args := [d1, d2] }
  | _ => none }
def segNobodyRow : OpenClaim := { program := "ytdmogmdhdhgmeaa", sum := "cbc00daccabd7806f16b05bb6293492135af0f212ac42125a1b7d65cc9f28b25", func := "carrack/carracklaw02.SegNobody", spec := "segNobody", unfollowed := true, recurses := true, apart := false }
def SegNobodySaid : Prop := segNobodyRow.holds Try.pinned (OpenSpec.ofChange segNobodySpec)

/-- ITS FALSE NEIGHBOUR: 'it returns false'. Refute it at one input. -/
def segNobodyWrong : ChangeSpec := { name := "segNobody", fn := fun _ => fun
  | [d1, d2] => { results := [.lit (.bool false)], args := [d1, d2] }
  | _ => none }
def SegNobodyWrongFalsely : Prop := segNobodyRow.holds Try.pinned (OpenSpec.ofChange segNobodyWrong)

/- THE SECOND FORM. 'bulk': how many values and letters a reading holds, each counted each time it is reached (what is shared counts as often as it is met; a slice's spare places count too). A statement '..UptoSaid' is the law's where the arguments, and the package variables that the reading takes, are together of bulk at most 1048576: NARROWER than '..Said'. Prove '..Said' where nothing that the law and all that it calls make is longer than what came in: it says more and counts as full. Else prove '..UptoSaid'. A law counts once. -/
mutual
def uptoBulk {H : Type} : DataW H → Nat
  | .lit (.string bytes) => bytes.length + 1
  | .lit _ => 1
  | .nil => 1
  | .ptr d => uptoBulk d + 1
  | .slice elems spare => uptoBulkAll elems + uptoBulkAll spare + 1
  | .agg parts => uptoBulkAll parts + 1
  | .iface _ d => uptoBulk d + 1
  | .map entries => uptoBulkEntries entries + 1
  | .held _ => 1
def uptoBulkAll {H : Type} : List (DataW H) → Nat
  | [] => 0
  | d :: r => uptoBulk d + uptoBulkAll r
def uptoBulkEntries {H : Type} : List (Lit × DataW H) → Nat
  | [] => 0
  | x :: r => uptoBulkEntry x + uptoBulkEntries r
def uptoBulkEntry {H : Type} : Lit × DataW H → Nat
  | (.string bytes, d) => bytes.length + uptoBulk d + 1
  | (_, d) => uptoBulk d + 1
 end
def uptoSmall : (H : Type) → List (DataW H) → Bool := fun _ ds => decide (uptoBulkAll ds ≤ 1048576)
def OpenSpec.upto (s : _root_.Go.ChangeSpec) : _root_.Go.OpenSpec := { _root_.Go.OpenSpec.ofChange s with cond := some uptoSmall }

/-- 'carracklaw02.SegAll', WHERE WHAT IT READS IS OF BULK AT MOST 1048576: true; the input reads as it did. -/
def segAllUptoRow : OpenClaim := { program := "ytdmogmdhdhgmeaa", sum := "cbc00daccabd7806f16b05bb6293492135af0f212ac42125a1b7d65cc9f28b25", func := "carrack/carracklaw02.SegAll", spec := "segAll", unfollowed := true, recurses := true, apart := false, narrowed := true }
def SegAllUptoSaid : Prop := segAllUptoRow.holds Try.pinned (OpenSpec.upto segAllSpec)

/-- 'carracklaw02.SegStays', WHERE WHAT IT READS IS OF BULK AT MOST 1048576: true; the input reads as it did. -/
def segStaysUptoRow : OpenClaim := { program := "ytdmogmdhdhgmeaa", sum := "cbc00daccabd7806f16b05bb6293492135af0f212ac42125a1b7d65cc9f28b25", func := "carrack/carracklaw02.SegStays", spec := "segStays", unfollowed := true, recurses := true, apart := false, narrowed := true }
def SegStaysUptoSaid : Prop := segStaysUptoRow.holds Try.pinned (OpenSpec.upto segStaysSpec)

/-- 'carracklaw02.SegDiff', WHERE WHAT IT READS IS OF BULK AT MOST 1048576: true; the input reads as it did. -/
def segDiffUptoRow : OpenClaim := { program := "ytdmogmdhdhgmeaa", sum := "cbc00daccabd7806f16b05bb6293492135af0f212ac42125a1b7d65cc9f28b25", func := "carrack/carracklaw02.SegDiff", spec := "segDiff", unfollowed := true, recurses := true, apart := false, narrowed := true }
def SegDiffUptoSaid : Prop := segDiffUptoRow.holds Try.pinned (OpenSpec.upto segDiffSpec)

/-- 'carracklaw02.SegCopies', WHERE WHAT IT READS IS OF BULK AT MOST 1048576: true; the input reads as it did. -/
def segCopiesUptoRow : OpenClaim := { program := "ytdmogmdhdhgmeaa", sum := "cbc00daccabd7806f16b05bb6293492135af0f212ac42125a1b7d65cc9f28b25", func := "carrack/carracklaw02.SegCopies", spec := "segCopies", unfollowed := true, recurses := true, apart := false, narrowed := true }
def SegCopiesUptoSaid : Prop := segCopiesUptoRow.holds Try.pinned (OpenSpec.upto segCopiesSpec)

/-- 'carracklaw02.SegNobody', WHERE WHAT IT READS IS OF BULK AT MOST 1048576: true; the input reads as it did. -/
def segNobodyUptoRow : OpenClaim := { program := "ytdmogmdhdhgmeaa", sum := "cbc00daccabd7806f16b05bb6293492135af0f212ac42125a1b7d65cc9f28b25", func := "carrack/carracklaw02.SegNobody", spec := "segNobody", unfollowed := true, recurses := true, apart := false, narrowed := true }
def SegNobodyUptoSaid : Prop := segNobodyUptoRow.holds Try.pinned (OpenSpec.upto segNobodySpec)

end Rows
end Go.Proofs.Ytdmogmdhdhgmeaa
