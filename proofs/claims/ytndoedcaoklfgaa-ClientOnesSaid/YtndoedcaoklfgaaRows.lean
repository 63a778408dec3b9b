/-
  No cell of these rows narrows 'for every input' (looked for: loops, veiled, ifaces, maps, wideKeys, modest, calm, conditions, laid).
  DERIVED. THE GIVEN ROWS OF THIS SEAT. 6 by the template 'for every input the law returns true; each argument reads behind the call as it read before'; 0 by the template 'total and deterministic' (their statements: YtndoedcaoklfgaaTotals.lean).
  GIVEN WITH THE SEED: the statements are not yours to turn. If you find one false, say at which input.
  Laid BY PROGRAM, IN A SANDBOX (cutbox-rows.mjs): the forced cells as the released guide's own fill.sh prints them over the translation e9a86e3fad1865d7… (all of the seat's roots in one cut). By AI agents, Wed Nov 11 2026. No macro, syntax, notation, axiom, sorry.
-/
import Derived.Test.YtndoedcaoklfgaaChecked
import GoSem.Claim
import GoSem.ClaimJoined
import GoSem.ClaimMapViews
import Derived.JoinedTies
import Derived.KernelRfl
namespace Go.Proofs.Ytndoedcaoklfgaa
/- THE CELL 'sum', in the pinned program and in every row, IS THE sha256 OF THE DUMP (.gsa) THAT YtndoedcaoklfgaaProg.lean LOADS. Nothing in Lean hashes anything: it is a label: what it is worth is what the hold of that sum in a sandbox is worth. -/
noncomputable def Try.pinned : Pinned := { name := "ytndoedcaoklfgaa", sum := "e9a86e3fad1865d7f636aea17c92a65647da7e0b5ea5eabe1dc1005df0afdbd5", checked := Try.checked }
namespace Rows
def none {H : Type} : Left H := { results := [], args := [] }

/-- 'carracklaw08.ClientPlays': WHATEVER THE INPUT: true; the input reads as it did. -/
def clientPlaysSpec : ChangeSpec := { name := "clientPlays", fn := fun _ => fun
  | [d1, d2, d3] => { results := [.lit (.bool true)], args := [d1, d2, d3] }
  | _ => none }
def clientPlaysRow : OpenClaim := { program := "ytndoedcaoklfgaa", sum := "e9a86e3fad1865d7f636aea17c92a65647da7e0b5ea5eabe1dc1005df0afdbd5", func := "carrack/carracklaw08.ClientPlays", spec := "clientPlays", unfollowed := true, recurses := true, apart := false }
def ClientPlaysSaid : Prop := clientPlaysRow.holds Try.pinned (OpenSpec.ofChange clientPlaysSpec)

/-- ITS FALSE NEIGHBOUR: 'it returns false'. Refute it at one input. -/
def clientPlaysWrong : ChangeSpec := { name := "clientPlays", fn := fun _ => fun
  | [d1, d2, d3] => { results := [.lit (.bool false)], args := [d1, d2, d3] }
  | _ => none }
def ClientPlaysWrongFalsely : Prop := clientPlaysRow.holds Try.pinned (OpenSpec.ofChange clientPlaysWrong)

/-- 'carracklaw08.ClientWords': WHATEVER THE INPUT: true; the input reads as it did. -/
def clientWordsSpec : ChangeSpec := { name := "clientWords", fn := fun _ => fun
  | [d1, d2] => { results := [.lit (.bool true)], args := [d1, d2] }
  | _ => none }
def clientWordsRow : OpenClaim := { program := "ytndoedcaoklfgaa", sum := "e9a86e3fad1865d7f636aea17c92a65647da7e0b5ea5eabe1dc1005df0afdbd5", func := "carrack/carracklaw08.ClientWords", spec := "clientWords", unfollowed := true, recurses := true, apart := false }
def ClientWordsSaid : Prop := clientWordsRow.holds Try.pinned (OpenSpec.ofChange clientWordsSpec)

/-- ITS FALSE NEIGHBOUR: 'it returns false'. Refute it at one input. -/
def clientWordsWrong : ChangeSpec := { name := "clientWords", fn := fun _ => fun
  | [d1, d2] => { results := [.lit (.bool false)], args := [d1, d2] }
  | _ => none }
def ClientWordsWrongFalsely : Prop := clientWordsRow.holds Try.pinned (OpenSpec.ofChange clientWordsWrong)

/-- 'carracklaw08.ClientApart': WHATEVER THE INPUT: true; the input reads as it did. -/
def clientApartSpec : ChangeSpec := { name := "clientApart", fn := fun _ => fun
  | [d1, d2] => { results := [.lit (.bool true)], args := [d1, d2] }
  | _ => none }
def clientApartRow : OpenClaim := { program := "ytndoedcaoklfgaa", sum := "e9a86e3fad1865d7f636aea17c92a65647da7e0b5ea5eabe1dc1005df0afdbd5", func := "carrack/carracklaw08.ClientApart", spec := "clientApart", unfollowed := true, recurses := true, apart := false }
def ClientApartSaid : Prop := clientApartRow.holds Try.pinned (OpenSpec.ofChange clientApartSpec)

/-- ITS FALSE NEIGHBOUR: 'it returns false'. Refute it at one input. -/
def clientApartWrong : ChangeSpec := { name := "clientApart", fn := fun _ => fun
  | [d1, d2] => { results := [.lit (.bool false)], args := [d1, d2] }
  | _ => none }
def ClientApartWrongFalsely : Prop := clientApartRow.holds Try.pinned (OpenSpec.ofChange clientApartWrong)

/-- 'carracklaw08.ClientGoes': WHATEVER THE INPUT: true; the input reads as it did. -/
def clientGoesSpec : ChangeSpec := { name := "clientGoes", fn := fun _ => fun
  | [d1, d2] => { results := [.lit (.bool true)], args := [d1, d2] }
  | _ => none }
def clientGoesRow : OpenClaim := { program := "ytndoedcaoklfgaa", sum := "e9a86e3fad1865d7f636aea17c92a65647da7e0b5ea5eabe1dc1005df0afdbd5", func := "carrack/carracklaw08.ClientGoes", spec := "clientGoes", unfollowed := true, recurses := true, apart := false }
def ClientGoesSaid : Prop := clientGoesRow.holds Try.pinned (OpenSpec.ofChange clientGoesSpec)

/-- ITS FALSE NEIGHBOUR: 'it returns false'. Refute it at one input. -/
def clientGoesWrong : ChangeSpec := { name := "clientGoes", fn := fun _ => fun
  | [d1, d2] => { results := [.lit (.bool false)], args := [d1, d2] }
  | _ => none }
def ClientGoesWrongFalsely : Prop := clientGoesRow.holds Try.pinned (OpenSpec.ofChange clientGoesWrong)

/-- 'carracklaw08.ClientOnes': WHATEVER THE INPUT: true; the input reads as it did. -/
def clientOnesSpec : ChangeSpec := { name := "clientOnes", fn := fun _ => fun
  | [d1, d2, d3] => { results := [.lit (.bool true)], args := [d1, d2, d3] }
  | _ => none }
def clientOnesRow : OpenClaim := { program := "ytndoedcaoklfgaa", sum := "e9a86e3fad1865d7f636aea17c92a65647da7e0b5ea5eabe1dc1005df0afdbd5", func := "carrack/carracklaw08.ClientOnes", spec := "clientOnes", unfollowed := true, recurses := true, apart := false }
def ClientOnesSaid : Prop := clientOnesRow.holds Try.pinned (OpenSpec.ofChange clientOnesSpec)

/-- ITS FALSE NEIGHBOUR: 'it returns false'. Refute it at one input. -/
def clientOnesWrong : ChangeSpec := { name := "clientOnes", fn := fun _ => fun
  | [d1, d2, d3] => { results := [.lit (.bool false)], args := [d1, d2, d3] }
  | _ => none }
def ClientOnesWrongFalsely : Prop := clientOnesRow.holds Try.pinned (OpenSpec.ofChange clientOnesWrong)

/-- 'carracklaw08.ClientNobody': WHATEVER THE INPUT: true; the input reads as it did. -/
def clientNobodySpec : ChangeSpec := { name := "clientNobody", fn := fun _ => fun
  | [d1, d2] => { results := [.lit (.bool true)], args := [d1, d2] }
  | _ => none }
def clientNobodyRow : OpenClaim := { program := "ytndoedcaoklfgaa", sum := "e9a86e3fad1865d7f636aea17c92a65647da7e0b5ea5eabe1dc1005df0afdbd5", func := "carrack/carracklaw08.ClientNobody", spec := "clientNobody", unfollowed := true, recurses := true, apart := false }
def ClientNobodySaid : Prop := clientNobodyRow.holds Try.pinned (OpenSpec.ofChange clientNobodySpec)

/-- ITS FALSE NEIGHBOUR: 'it returns false'. Refute it at one input. -/
def clientNobodyWrong : ChangeSpec := { name := "clientNobody", fn := fun _ => fun
  | [d1, d2] => { results := [.lit (.bool false)], args := [d1, d2] }
  | _ => none }
def ClientNobodyWrongFalsely : Prop := clientNobodyRow.holds Try.pinned (OpenSpec.ofChange clientNobodyWrong)

/- THE SECOND FORM. 'bulk': how many values and letters a reading holds, each counted each time it is reached (what is shared counts as often as it is met; a slice's spare places count too). A statement '..UptoSaid' is the law's where the arguments, and the package variables that the reading takes, are together of bulk at most 1048576: NARROWER than '..Said'. Prove '..Said' where nothing that the law and all that it calls make is longer than what came in: it says more and counts as full. Else prove '..UptoSaid'. A law counts once. -/
mutual
def uptoBulk {H : Type} : DataW H → Nat
  | .lit (.string bytes) => bytes.length + 1
  | .lit _ => 1
  | .nil => 1
  | .ptr d => uptoBulk d + 1
  | .slice elems spare => uptoBulkAll elems + uptoBulkAll spare + 1
  | .agg parts => uptoBulkAll parts + 1
  | .iface _ d => uptoBulk d + 1
  | .map entries => uptoBulkEntries entries + 1
  | .held _ => 1
def uptoBulkAll {H : Type} : List (DataW H) → Nat
  | [] => 0
  | d :: r => uptoBulk d + uptoBulkAll r
def uptoBulkEntries {H : Type} : List (Lit × DataW H) → Nat
  | [] => 0
  | x :: r => uptoBulkEntry x + uptoBulkEntries r
def uptoBulkEntry {H : Type} : Lit × DataW H → Nat
  | (.string bytes, d) => bytes.length + uptoBulk d + 1
  | (_, d) => uptoBulk d + 1
 end
def uptoSmall : (H : Type) → List (DataW H) → Bool := fun _ ds => decide (uptoBulkAll ds ≤ 1048576)
def OpenSpec.upto (s : _root_.Go.ChangeSpec) : _root_.Go.OpenSpec := { _root_.Go.OpenSpec.ofChange s with cond := some uptoSmall }

/-- 'carracklaw08.ClientPlays', WHERE WHAT IT READS IS OF BULK AT MOST 1048576: true; the input reads as it did. -/
def clientPlaysUptoRow : OpenClaim := { program := "ytndoedcaoklfgaa", sum := "e9a86e3fad1865d7f636aea17c92a65647da7e0b5ea5eabe1dc1005df0afdbd5", func := "carrack/carracklaw08.ClientPlays", spec := "clientPlays", unfollowed := true, recurses := true, apart := false, narrowed := true }
def ClientPlaysUptoSaid : Prop := clientPlaysUptoRow.holds Try.pinned (OpenSpec.upto clientPlaysSpec)

/-- 'carracklaw08.ClientWords', WHERE WHAT IT READS IS OF BULK AT MOST 1048576: true; the input reads as it did. -/
def clientWordsUptoRow : OpenClaim := { program := "ytndoedcaoklfgaa", sum := "e9a86e3fad1865d7f636aea17c92a65647da7e0b5ea5eabe1dc1005df0afdbd5", func := "carrack/carracklaw08.ClientWords", spec := "clientWords", unfollowed := true, recurses := true, apart := false, narrowed := true }
def ClientWordsUptoSaid : Prop := clientWordsUptoRow.holds Try.pinned (OpenSpec.upto clientWordsSpec)

/-- 'carracklaw08.ClientApart', WHERE WHAT IT READS IS OF BULK AT MOST 1048576: true; the input reads as it did. -/
def clientApartUptoRow : OpenClaim := { program := "ytndoedcaoklfgaa", sum := "e9a86e3fad1865d7f636aea17c92a65647da7e0b5ea5eabe1dc1005df0afdbd5", func := "carrack/carracklaw08.ClientApart", spec := "clientApart", unfollowed := true, recurses := true, apart := false, narrowed := true }
def ClientApartUptoSaid : Prop := clientApartUptoRow.holds Try.pinned (OpenSpec.upto clientApartSpec)

/-- 'carracklaw08.ClientGoes', WHERE WHAT IT READS IS OF BULK AT MOST 1048576: true; the input reads as it did. -/
def clientGoesUptoRow : OpenClaim := { program := "ytndoedcaoklfgaa", sum := "e9a86e3fad1865d7f636aea17c92a65647da7e0b5ea5eabe1dc1005df0afdbd5", func := "carrack/carracklaw08.ClientGoes", spec := "clientGoes", unfollowed := true, recurses := true, apart := false, narrowed := true }
def ClientGoesUptoSaid : Prop := clientGoesUptoRow.holds Try.pinned (OpenSpec.upto clientGoesSpec)

/-- 'carracklaw08.ClientOnes', WHERE WHAT IT READS IS OF BULK AT MOST 1048576: true; the input reads as it did. -/
def clientOnesUptoRow : OpenClaim := { program := "ytndoedcaoklfgaa", sum := "e9a86e3fad1865d7f636aea17c92a65647da7e0b5ea5eabe1dc1005df0afdbd5", func := "carrack/carracklaw08.ClientOnes", spec := "clientOnes", unfollowed := true, recurses := true, apart := false, narrowed := true }
def ClientOnesUptoSaid : Prop := clientOnesUptoRow.holds Try.pinned (OpenSpec.upto clientOnesSpec)

/-- 'carracklaw08.ClientNobody', WHERE WHAT IT READS IS OF BULK AT MOST 1048576: true; the input reads as it did. -/
def clientNobodyUptoRow : OpenClaim := { program := "ytndoedcaoklfgaa", sum := "e9a86e3fad1865d7f636aea17c92a65647da7e0b5ea5eabe1dc1005df0afdbd5", func := "carrack/carracklaw08.ClientNobody", spec := "clientNobody", unfollowed := true, recurses := true, apart := false, narrowed := true }
def ClientNobodyUptoSaid : Prop := clientNobodyUptoRow.holds Try.pinned (OpenSpec.upto clientNobodySpec)

end Rows
end Go.Proofs.Ytndoedcaoklfgaa
