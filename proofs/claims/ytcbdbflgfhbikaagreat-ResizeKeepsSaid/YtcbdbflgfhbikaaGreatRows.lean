/-
  No cell of these rows narrows 'for every input' (looked for: loops, veiled, ifaces, maps, wideKeys, modest, calm, conditions, laid).
  DERIVED. THE GIVEN ROWS OF THIS SEAT. 5 by the template 'for every input the law returns true; each argument reads behind the call as it read before'; 0 by the template 'total and deterministic' (their statements: YtcbdbflgfhbikaaGreatTotals.lean).
  GIVEN WITH THE SEED: the statements are not yours to turn. If you find one false, say at which input.
  Laid BY PROGRAM, IN A SANDBOX (cutbox-rows.mjs): the forced cells as the released guide's own fill.sh prints them over the translation e3fd93c574fbed84… (all of the seat's roots in one cut). By AI agents, Wed Nov 11 2026. No macro, syntax, notation, axiom, sorry.
-/
import Derived.Test.YtcbdbflgfhbikaaGreatChecked
import GoSem.Claim
import GoSem.ClaimJoined
import GoSem.ClaimMapViews
import Derived.JoinedTies
import Derived.KernelRfl
namespace Go.Proofs.YtcbdbflgfhbikaaGreat
/- THE CELL 'sum', in the pinned program and in every row, IS THE sha256 OF THE DUMP (.gsa) THAT YtcbdbflgfhbikaaGreatProg.lean LOADS. Nothing in Lean hashes anything: it is a label: what it is worth is what the hold of that sum in a sandbox is worth. -/
noncomputable def Tryz.pinned : Pinned := { name := "ytcbdbflgfhbikaagreat", sum := "e3fd93c574fbed84988aa53e42b85586737e2aab8991bd20a212d6f0d3cc0f18", checked := Tryz.checked }
namespace Rows
def none {H : Type} : Left H := { results := [], args := [] }

/-- 'carracklaw12.ResizeTells': WHATEVER THE INPUT: true; the input reads as it did. -/
def resizeTellsSpec : ChangeSpec := { name := "resizeTells", fn := fun _ => fun
  | [d1, d2, d3] => { results := [.lit (.bool true)], args := [d1, d2, d3] }
  | _ => none }
def resizeTellsRow : OpenClaim := { program := "ytcbdbflgfhbikaagreat", sum := "e3fd93c574fbed84988aa53e42b85586737e2aab8991bd20a212d6f0d3cc0f18", func := "carrack/carracklaw12.ResizeTells", spec := "resizeTells", inPlace := ["math/bits.Add64"], unfollowed := true, recurses := true, apart := false }
def ResizeTellsSaid : Prop := resizeTellsRow.holds Tryz.pinned (OpenSpec.ofChange resizeTellsSpec)

/-- ITS FALSE NEIGHBOUR: 'it returns false'. Refute it at one input. -/
def resizeTellsWrong : ChangeSpec := { name := "resizeTells", fn := fun _ => fun
  | [d1, d2, d3] => { results := [.lit (.bool false)], args := [d1, d2, d3] }
  | _ => none }
def ResizeTellsWrongFalsely : Prop := resizeTellsRow.holds Tryz.pinned (OpenSpec.ofChange resizeTellsWrong)

/-- 'carracklaw12.ResizeKeeps': WHATEVER THE INPUT: true; the input reads as it did. -/
def resizeKeepsSpec : ChangeSpec := { name := "resizeKeeps", fn := fun _ => fun
  | [d1, d2, d3] => { results := [.lit (.bool true)], args := [d1, d2, d3] }
  | _ => none }
def resizeKeepsRow : OpenClaim := { program := "ytcbdbflgfhbikaagreat", sum := "e3fd93c574fbed84988aa53e42b85586737e2aab8991bd20a212d6f0d3cc0f18", func := "carrack/carracklaw12.ResizeKeeps", spec := "resizeKeeps", inPlace := ["math/bits.Add64"], unfollowed := true, recurses := true, apart := false }
def ResizeKeepsSaid : Prop := resizeKeepsRow.holds Tryz.pinned (OpenSpec.ofChange resizeKeepsSpec)

/-- ITS FALSE NEIGHBOUR: 'it returns false'. Refute it at one input. -/
def resizeKeepsWrong : ChangeSpec := { name := "resizeKeeps", fn := fun _ => fun
  | [d1, d2, d3] => { results := [.lit (.bool false)], args := [d1, d2, d3] }
  | _ => none }
def ResizeKeepsWrongFalsely : Prop := resizeKeepsRow.holds Tryz.pinned (OpenSpec.ofChange resizeKeepsWrong)

/-- 'carracklaw12.ResizeBack': WHATEVER THE INPUT: true; the input reads as it did. -/
def resizeBackSpec : ChangeSpec := { name := "resizeBack", fn := fun _ => fun
  | [d1, d2, d3] => { results := [.lit (.bool true)], args := [d1, d2, d3] }
  | _ => none }
def resizeBackRow : OpenClaim := { program := "ytcbdbflgfhbikaagreat", sum := "e3fd93c574fbed84988aa53e42b85586737e2aab8991bd20a212d6f0d3cc0f18", func := "carrack/carracklaw12.ResizeBack", spec := "resizeBack", inPlace := ["math/bits.Add64"], unfollowed := true, recurses := true, apart := false }
def ResizeBackSaid : Prop := resizeBackRow.holds Tryz.pinned (OpenSpec.ofChange resizeBackSpec)

/-- ITS FALSE NEIGHBOUR: 'it returns false'. Refute it at one input. -/
def resizeBackWrong : ChangeSpec := { name := "resizeBack", fn := fun _ => fun
  | [d1, d2, d3] => { results := [.lit (.bool false)], args := [d1, d2, d3] }
  | _ => none }
def ResizeBackWrongFalsely : Prop := resizeBackRow.holds Tryz.pinned (OpenSpec.ofChange resizeBackWrong)

/-- 'carracklaw12.ResizeRoom': WHATEVER THE INPUT: true; the input reads as it did. -/
def resizeRoomSpec : ChangeSpec := { name := "resizeRoom", fn := fun _ => fun
  | [d1, d2] => { results := [.lit (.bool true)], args := [d1, d2] }
  | _ => none }
def resizeRoomRow : OpenClaim := { program := "ytcbdbflgfhbikaagreat", sum := "e3fd93c574fbed84988aa53e42b85586737e2aab8991bd20a212d6f0d3cc0f18", func := "carrack/carracklaw12.ResizeRoom", spec := "resizeRoom", inPlace := ["math/bits.Add64"], unfollowed := true, recurses := true, apart := false }
def ResizeRoomSaid : Prop := resizeRoomRow.holds Tryz.pinned (OpenSpec.ofChange resizeRoomSpec)

/-- ITS FALSE NEIGHBOUR: 'it returns false'. Refute it at one input. -/
def resizeRoomWrong : ChangeSpec := { name := "resizeRoom", fn := fun _ => fun
  | [d1, d2] => { results := [.lit (.bool false)], args := [d1, d2] }
  | _ => none }
def ResizeRoomWrongFalsely : Prop := resizeRoomRow.holds Tryz.pinned (OpenSpec.ofChange resizeRoomWrong)

/-- 'carracklaw12.ResizeNone': WHATEVER THE INPUT: true; the input reads as it did. -/
def resizeNoneSpec : ChangeSpec := { name := "resizeNone", fn := fun _ => fun
  | [d1, d2, d3] => { results := [.lit (.bool true)], args := [d1, d2, d3] }
  | _ => none }
def resizeNoneRow : OpenClaim := { program := "ytcbdbflgfhbikaagreat", sum := "e3fd93c574fbed84988aa53e42b85586737e2aab8991bd20a212d6f0d3cc0f18", func := "carrack/carracklaw12.ResizeNone", spec := "resizeNone", inPlace := ["math/bits.Add64"], unfollowed := true, recurses := true, apart := false }
def ResizeNoneSaid : Prop := resizeNoneRow.holds Tryz.pinned (OpenSpec.ofChange resizeNoneSpec)

/-- ITS FALSE NEIGHBOUR: 'it returns false'. Refute it at one input. -/
def resizeNoneWrong : ChangeSpec := { name := "resizeNone", fn := fun _ => fun
  | [d1, d2, d3] => { results := [.lit (.bool false)], args := [d1, d2, d3] }
  | _ => none }
def ResizeNoneWrongFalsely : Prop := resizeNoneRow.holds Tryz.pinned (OpenSpec.ofChange resizeNoneWrong)

/- THE SECOND FORM. 'bulk': how many values and letters a reading holds, each counted each time it is reached (what is shared counts as often as it is met; a slice's spare places count too). A statement '..UptoSaid' is the law's where the arguments, and the package variables that the reading takes, are together of bulk at most 1048576: NARROWER than '..Said'. Prove '..Said' where nothing that the law and all that it calls make is longer than what came in: it says more and counts as full. Else prove '..UptoSaid'. A law counts once. -/
mutual
def uptoBulk {H : Type} : DataW H → Nat
  | .lit (.string bytes) => bytes.length + 1
  | .lit _ => 1
  | .nil => 1
  | .ptr d => uptoBulk d + 1
  | .slice elems spare => uptoBulkAll elems + uptoBulkAll spare + 1
  | .agg parts => uptoBulkAll parts + 1
  | .iface _ d => uptoBulk d + 1
  | .map entries => uptoBulkEntries entries + 1
  | .held _ => 1
def uptoBulkAll {H : Type} : List (DataW H) → Nat
  | [] => 0
  | d :: r => uptoBulk d + uptoBulkAll r
def uptoBulkEntries {H : Type} : List (Lit × DataW H) → Nat
  | [] => 0
  | x :: r => uptoBulkEntry x + uptoBulkEntries r
def uptoBulkEntry {H : Type} : Lit × DataW H → Nat
  | (.string bytes, d) => bytes.length + uptoBulk d + 1
  | (_, d) => uptoBulk d + 1
 end
def uptoSmall : (H : Type) → List (DataW H) → Bool := fun _ ds => decide (uptoBulkAll ds ≤ 1048576)
def OpenSpec.upto (s : _root_.Go.ChangeSpec) : _root_.Go.OpenSpec := { _root_.Go.OpenSpec.ofChange s with cond := some uptoSmall }

/-- 'carracklaw12.ResizeTells', WHERE WHAT IT READS IS OF BULK AT MOST 1048576: true; the input reads as it did. -/
def resizeTellsUptoRow : OpenClaim := { program := "ytcbdbflgfhbikaagreat", sum := "e3fd93c574fbed84988aa53e42b85586737e2aab8991bd20a212d6f0d3cc0f18", func := "carrack/carracklaw12.ResizeTells", spec := "resizeTells", inPlace := ["math/bits.Add64"], unfollowed := true, recurses := true, apart := false, narrowed := true }
def ResizeTellsUptoSaid : Prop := resizeTellsUptoRow.holds Tryz.pinned (OpenSpec.upto resizeTellsSpec)

/-- 'carracklaw12.ResizeKeeps', WHERE WHAT IT READS IS OF BULK AT MOST 1048576: true; the input reads as it did. -/
def resizeKeepsUptoRow : OpenClaim := { program := "ytcbdbflgfhbikaagreat", sum := "e3fd93c574fbed84988aa53e42b85586737e2aab8991bd20a212d6f0d3cc0f18", func := "carrack/carracklaw12.ResizeKeeps", spec := "resizeKeeps", inPlace := ["math/bits.Add64"], unfollowed := true, recurses := true, apart := false, narrowed := true }
def ResizeKeepsUptoSaid : Prop := resizeKeepsUptoRow.holds Tryz.pinned (OpenSpec.upto resizeKeepsSpec)

/-- 'carracklaw12.ResizeBack', WHERE WHAT IT READS IS OF BULK AT MOST 1048576: true; the input reads as it did. -/
def resizeBackUptoRow : OpenClaim := { program := "ytcbdbflgfhbikaagreat", sum := "e3fd93c574fbed84988aa53e42b85586737e2aab8991bd20a212d6f0d3cc0f18", func := "carrack/carracklaw12.ResizeBack", spec := "resizeBack", inPlace := ["math/bits.Add64"], unfollowed := true, recurses := true, apart := false, narrowed := true }
def ResizeBackUptoSaid : Prop := resizeBackUptoRow.holds Tryz.pinned (OpenSpec.upto resizeBackSpec)

/-- 'carracklaw12.ResizeRoom', WHERE WHAT IT READS IS OF BULK AT MOST 1048576: true; the input reads as it did. -/
def resizeRoomUptoRow : OpenClaim := { program := "ytcbdbflgfhbikaagreat", sum := "e3fd93c574fbed84988aa53e42b85586737e2aab8991bd20a212d6f0d3cc0f18", func := "carrack/carracklaw12.ResizeRoom", spec := "resizeRoom", inPlace := ["math/bits.Add64"], unfollowed := true, recurses := true, apart := false, narrowed := true }
def ResizeRoomUptoSaid : Prop := resizeRoomUptoRow.holds Tryz.pinned (OpenSpec.upto resizeRoomSpec)

/-- 'carracklaw12.ResizeNone', WHERE WHAT IT READS IS OF BULK AT MOST 1048576: true; the input reads as it did. -/
def resizeNoneUptoRow : OpenClaim := { program := "ytcbdbflgfhbikaagreat", sum := "e3fd93c574fbed84988aa53e42b85586737e2aab8991bd20a212d6f0d3cc0f18", func := "carrack/carracklaw12.ResizeNone", spec := "resizeNone", inPlace := ["math/bits.Add64"], unfollowed := true, recurses := true, apart := false, narrowed := true }
def ResizeNoneUptoSaid : Prop := resizeNoneUptoRow.holds Tryz.pinned (OpenSpec.upto resizeNoneSpec)

end Rows
end Go.Proofs.YtcbdbflgfhbikaaGreat
