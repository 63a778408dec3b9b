/-
  No cell of these rows narrows 'for every input' (looked for: loops, veiled, ifaces, maps, wideKeys, modest, calm, conditions, laid).
  DERIVED. THE GIVEN ROWS OF THIS SEAT. 6 by the template 'for every input the law returns true; each argument reads behind the call as it read before'; 0 by the template 'total and deterministic' (their statements: YtebkpcbajheciaaTotals.lean).
  GIVEN WITH THE SEED: the statements are not yours to turn. If you find one false, say at which input.
  Laid BY PROGRAM, IN A SANDBOX (cutbox-rows.mjs): the forced cells as the released guide's own fill.sh prints them over the translation f2d3da425c51104f… (all of the seat's roots in one cut). By AI agents, Wed Nov 11 2026. No macro, syntax, notation, axiom, sorry.
-/
import Derived.Test.YtebkpcbajheciaaChecked
import GoSem.Claim
import GoSem.ClaimJoined
import GoSem.ClaimMapViews
import Derived.JoinedTies
import Derived.KernelRfl
namespace Go.Proofs.Ytebkpcbajheciaa
/- THE CELL 'sum', in the pinned program and in every row, IS THE sha256 OF THE DUMP (.gsa) THAT YtebkpcbajheciaaProg.lean LOADS. Nothing in Lean hashes anything: it is a label: what it is worth is what the hold of that sum in a sandbox is worth. -/
noncomputable def Try.pinned : Pinned := { name := "ytebkpcbajheciaa", sum := "f2d3da425c51104fb1315594a5a1aca8a2821f80d2802d972036e13d5b041038", checked := Try.checked }
namespace Rows
def none {H : Type} : Left H := { results := [], args := [] }

/-- 'carracklaw01.WordSums': WHATEVER THE INPUT: true; the input reads as it did. -/
def wordSumsSpec : ChangeSpec := { name := "wordSums", fn := fun _ => fun
  | [d1, d2] => { results := [.lit (.bool true)], args := [d1, d2] }
  | _ => none }
def wordSumsRow : OpenClaim := { program := "ytebkpcbajheciaa", sum := "f2d3da425c51104fb1315594a5a1aca8a2821f80d2802d972036e13d5b041038", func := "carrack/carracklaw01.WordSums", spec := "wordSums", inPlace := ["math/bits.Add64"], unfollowed := true, recurses := true, apart := false }
def WordSumsSaid : Prop := wordSumsRow.holds Try.pinned (OpenSpec.ofChange wordSumsSpec)

/-- ITS FALSE NEIGHBOUR: 'it returns false'. Refute it at one input. -/
def wordSumsWrong : ChangeSpec := { name := "wordSums", fn := fun _ => fun
  | [d1, d2] => { results := [.lit (.bool false)], args := [d1, d2] }
  | _ => none }
def WordSumsWrongFalsely : Prop := wordSumsRow.holds Try.pinned (OpenSpec.ofChange wordSumsWrong)

/-- 'carracklaw01.WordNeeds': WHATEVER THE INPUT: true; the input reads as it did. -/
def wordNeedsSpec : ChangeSpec := { name := "wordNeeds", fn := fun _ => fun
  | [d1, d2] => { results := [.lit (.bool true)], args := [d1, d2] }
  | _ => none }
def wordNeedsRow : OpenClaim := { program := "ytebkpcbajheciaa", sum := "f2d3da425c51104fb1315594a5a1aca8a2821f80d2802d972036e13d5b041038", func := "carrack/carracklaw01.WordNeeds", spec := "wordNeeds", inPlace := ["math/bits.Add64"], unfollowed := true, recurses := true, apart := false }
def WordNeedsSaid : Prop := wordNeedsRow.holds Try.pinned (OpenSpec.ofChange wordNeedsSpec)

/-- ITS FALSE NEIGHBOUR: 'it returns false'. Refute it at one input. -/
def wordNeedsWrong : ChangeSpec := { name := "wordNeeds", fn := fun _ => fun
  | [d1, d2] => { results := [.lit (.bool false)], args := [d1, d2] }
  | _ => none }
def WordNeedsWrongFalsely : Prop := wordNeedsRow.holds Try.pinned (OpenSpec.ofChange wordNeedsWrong)

/-- 'carracklaw01.WordNames': WHATEVER THE INPUT: true; the input reads as it did. -/
def wordNamesSpec : ChangeSpec := { name := "wordNames", fn := fun _ => fun
  | [d1, d2] => { results := [.lit (.bool true)], args := [d1, d2] }
  | _ => none }
def wordNamesRow : OpenClaim := { program := "ytebkpcbajheciaa", sum := "f2d3da425c51104fb1315594a5a1aca8a2821f80d2802d972036e13d5b041038", func := "carrack/carracklaw01.WordNames", spec := "wordNames", inPlace := ["math/bits.Add64"], unfollowed := true, recurses := true, apart := false }
def WordNamesSaid : Prop := wordNamesRow.holds Try.pinned (OpenSpec.ofChange wordNamesSpec)

/-- ITS FALSE NEIGHBOUR: 'it returns false'. Refute it at one input. -/
def wordNamesWrong : ChangeSpec := { name := "wordNames", fn := fun _ => fun
  | [d1, d2] => { results := [.lit (.bool false)], args := [d1, d2] }
  | _ => none }
def WordNamesWrongFalsely : Prop := wordNamesRow.holds Try.pinned (OpenSpec.ofChange wordNamesWrong)

/-- 'carracklaw01.WordUp': WHATEVER THE INPUT: true; the input reads as it did. -/
def wordUpSpec : ChangeSpec := { name := "wordUp", fn := fun _ => fun
  | [d1, d2] => { results := [.lit (.bool true)], args := [d1, d2] }
  | _ => none }
def wordUpRow : OpenClaim := { program := "ytebkpcbajheciaa", sum := "f2d3da425c51104fb1315594a5a1aca8a2821f80d2802d972036e13d5b041038", func := "carrack/carracklaw01.WordUp", spec := "wordUp", inPlace := ["math/bits.Add64"], unfollowed := true, recurses := true, apart := false }
def WordUpSaid : Prop := wordUpRow.holds Try.pinned (OpenSpec.ofChange wordUpSpec)

/-- ITS FALSE NEIGHBOUR: 'it returns false'. Refute it at one input. -/
def wordUpWrong : ChangeSpec := { name := "wordUp", fn := fun _ => fun
  | [d1, d2] => { results := [.lit (.bool false)], args := [d1, d2] }
  | _ => none }
def WordUpWrongFalsely : Prop := wordUpRow.holds Try.pinned (OpenSpec.ofChange wordUpWrong)

/-- 'carracklaw01.WordBlocks': WHATEVER THE INPUT: true; the input reads as it did. -/
def wordBlocksSpec : ChangeSpec := { name := "wordBlocks", fn := fun _ => fun
  | [d1, d2] => { results := [.lit (.bool true)], args := [d1, d2] }
  | _ => none }
def wordBlocksRow : OpenClaim := { program := "ytebkpcbajheciaa", sum := "f2d3da425c51104fb1315594a5a1aca8a2821f80d2802d972036e13d5b041038", func := "carrack/carracklaw01.WordBlocks", spec := "wordBlocks", inPlace := ["math/bits.Add64"], unfollowed := true, recurses := true, apart := false }
def WordBlocksSaid : Prop := wordBlocksRow.holds Try.pinned (OpenSpec.ofChange wordBlocksSpec)

/-- ITS FALSE NEIGHBOUR: 'it returns false'. Refute it at one input. -/
def wordBlocksWrong : ChangeSpec := { name := "wordBlocks", fn := fun _ => fun
  | [d1, d2] => { results := [.lit (.bool false)], args := [d1, d2] }
  | _ => none }
def WordBlocksWrongFalsely : Prop := wordBlocksRow.holds Try.pinned (OpenSpec.ofChange wordBlocksWrong)

/-- 'carracklaw01.WordRanks': WHATEVER THE INPUT: true; the input reads as it did. -/
def wordRanksSpec : ChangeSpec := { name := "wordRanks", fn := fun _ => fun
  | [d1, d2] => { results := [.lit (.bool true)], args := [d1, d2] }
  | _ => none }
def wordRanksRow : OpenClaim := { program := "ytebkpcbajheciaa", sum := "f2d3da425c51104fb1315594a5a1aca8a2821f80d2802d972036e13d5b041038", func := "carrack/carracklaw01.WordRanks", spec := "wordRanks", inPlace := ["math/bits.Add64"], unfollowed := true, recurses := true, apart := false }
def WordRanksSaid : Prop := wordRanksRow.holds Try.pinned (OpenSpec.ofChange wordRanksSpec)

/-- ITS FALSE NEIGHBOUR: 'it returns false'. Refute it at one input. -/
def wordRanksWrong : ChangeSpec := { name := "wordRanks", fn := fun _ => fun
  | [d1, d2] => { results := [.lit (.bool false)], args := [d1, d2] }
  | _ => none }
def WordRanksWrongFalsely : Prop := wordRanksRow.holds Try.pinned (OpenSpec.ofChange wordRanksWrong)

/- THE SECOND FORM. 'bulk': how many values and letters a reading holds, each counted each time it is reached (what is shared counts as often as it is met; a slice's spare places count too). A statement '..UptoSaid' is the law's where the arguments, and the package variables that the reading takes, are together of bulk at most 1048576: NARROWER than '..Said'. Prove '..Said' where nothing that the law and all that it calls make is longer than what came in: it says more and counts as full. Else prove '..UptoSaid'. A law counts once. -/
mutual
def uptoBulk {H : Type} : DataW H → Nat
  | .lit (.string bytes) => bytes.length + 1
  | .lit _ => 1
  | .nil => 1
  | .ptr d => uptoBulk d + 1
  | .slice elems spare => uptoBulkAll elems + uptoBulkAll spare + 1
  | .agg parts => uptoBulkAll parts + 1
  | .iface _ d => uptoBulk d + 1
  | .map entries => uptoBulkEntries entries + 1
  | .held _ => 1
def uptoBulkAll {H : Type} : List (DataW H) → Nat
  | [] => 0
  | d :: r => uptoBulk d + uptoBulkAll r
def uptoBulkEntries {H : Type} : List (Lit × DataW H) → Nat
  | [] => 0
  | x :: r => uptoBulkEntry x + uptoBulkEntries r
def uptoBulkEntry {H : Type} : Lit × DataW H → Nat
  | (.string bytes, d) => bytes.length + uptoBulk d + 1
  | (_, d) => uptoBulk d + 1
 end
def uptoSmall : (H : Type) → List (DataW H) → Bool := fun _ ds => decide (uptoBulkAll ds ≤ 1048576)
def OpenSpec.upto (s : _root_.Go.ChangeSpec) : _root_.Go.OpenSpec := { _root_.Go.OpenSpec.ofChange s with cond := some uptoSmall }

/-- 'carracklaw01.WordSums', WHERE WHAT IT READS IS OF BULK AT MOST 1048576: true; the input reads as it did. -/
def wordSumsUptoRow : OpenClaim := { program := "ytebkpcbajheciaa", sum := "f2d3da425c51104fb1315594a5a1aca8a2821f80d2802d972036e13d5b041038", func := "carrack/carracklaw01.WordSums", spec := "wordSums", inPlace := ["math/bits.Add64"], unfollowed := true, recurses := true, apart := false, narrowed := true }
def WordSumsUptoSaid : Prop := wordSumsUptoRow.holds Try.pinned (OpenSpec.upto wordSumsSpec)

/-- 'carracklaw01.WordNeeds', WHERE WHAT IT READS IS OF BULK AT MOST 1048576: true; the input reads as it did. -/
def wordNeedsUptoRow : OpenClaim := { program := "ytebkpcbajheciaa", sum := "f2d3da425c51104fb1315594a5a1aca8a2821f80d2802d972036e13d5b041038", func := "carrack/carracklaw01.WordNeeds", spec := "wordNeeds", inPlace := ["math/bits.Add64"], unfollowed := true, recurses := true, apart := false, narrowed := true }
def WordNeedsUptoSaid : Prop := wordNeedsUptoRow.holds Try.pinned (OpenSpec.upto wordNeedsSpec)

/-- 'carracklaw01.WordNames', WHERE WHAT IT READS IS OF BULK AT MOST 1048576: true; the input reads as it did. -/
def wordNamesUptoRow : OpenClaim := { program := "ytebkpcbajheciaa", sum := "f2d3da425c51104fb1315594a5a1aca8a2821f80d2802d972036e13d5b041038", func := "carrack/carracklaw01.WordNames", spec := "wordNames", inPlace := ["math/bits.Add64"], unfollowed := true, recurses := true, apart := false, narrowed := true }
def WordNamesUptoSaid : Prop := wordNamesUptoRow.holds Try.pinned (OpenSpec.upto wordNamesSpec)

/-- 'carracklaw01.WordUp', WHERE WHAT IT READS IS OF BULK AT MOST 1048576: true; the input reads as it did. -/
def wordUpUptoRow : OpenClaim := { program := "ytebkpcbajheciaa", sum := "f2d3da425c51104fb1315594a5a1aca8a2821f80d2802d972036e13d5b041038", func := "carrack/carracklaw01.WordUp", spec := "wordUp", inPlace := ["math/bits.Add64"], unfollowed := true, recurses := true, apart := false, narrowed := true }
def WordUpUptoSaid : Prop := wordUpUptoRow.holds Try.pinned (OpenSpec.upto wordUpSpec)

/-- 'carracklaw01.WordBlocks', WHERE WHAT IT READS IS OF BULK AT MOST 1048576: true; the input reads as it did. -/
def wordBlocksUptoRow : OpenClaim := { program := "ytebkpcbajheciaa", sum := "f2d3da425c51104fb1315594a5a1aca8a2821f80d2802d972036e13d5b041038", func := "carrack/carracklaw01.WordBlocks", spec := "wordBlocks", inPlace := ["math/bits.Add64"], unfollowed := true, recurses := true, apart := false, narrowed := true }
def WordBlocksUptoSaid : Prop := wordBlocksUptoRow.holds Try.pinned (OpenSpec.upto wordBlocksSpec)

/-- 'carracklaw01.WordRanks', WHERE WHAT IT READS IS OF BULK AT MOST 1048576: true; the input reads as it did. -/
def wordRanksUptoRow : OpenClaim := { program := "ytebkpcbajheciaa", sum := "f2d3da425c51104fb1315594a5a1aca8a2821f80d2802d972036e13d5b041038", func := "carrack/carracklaw01.WordRanks", spec := "wordRanks", inPlace := ["math/bits.Add64"], unfollowed := true, recurses := true, apart := false, narrowed := true }
def WordRanksUptoSaid : Prop := wordRanksUptoRow.holds Try.pinned (OpenSpec.upto wordRanksSpec)

end Rows
end Go.Proofs.Ytebkpcbajheciaa
