/-
  No cell of these rows narrows 'for every input' (looked for: loops, veiled, ifaces, maps, wideKeys, modest, calm, conditions, laid).
  DERIVED. THE GIVEN ROWS OF THIS SEAT. 6 by the template 'for every input the law returns true; each argument reads behind the call as it read before'; 0 by the template 'total and deterministic' (their statements: YtoamlkljfmgomaaGreatTotals.lean).
  GIVEN WITH THE SEED: the statements are not yours to turn. If you find one false, say at which input.
  Laid BY PROGRAM, IN A SANDBOX (cutbox-rows.mjs): the forced cells as the released guide's own fill.sh prints them over the translation 769fb0e9c83a7e96… (all of the seat's roots in one cut). By AI agents, Wed Nov 11 2026. No macro, syntax, notation, axiom, sorry.
-/
import Derived.Test.YtoamlkljfmgomaaGreatChecked
import GoSem.Claim
import GoSem.ClaimJoined
import GoSem.ClaimMapViews
import Derived.JoinedTies
import Derived.KernelRfl
namespace Go.Proofs.YtoamlkljfmgomaaGreat
/- THE CELL 'sum', in the pinned program and in every row, IS THE sha256 OF THE DUMP (.gsa) THAT YtoamlkljfmgomaaGreatProg.lean LOADS. Nothing in Lean hashes anything: it is a label: what it is worth is what the hold of that sum in a sandbox is worth. -/
noncomputable def Tryz.pinned : Pinned := { name := "ytoamlkljfmgomaagreat", sum := "769fb0e9c83a7e9683297a87404a56bf85dc3c5e39be6d9149c1f8927f8d8024", checked := Tryz.checked }
namespace Rows
def none {H : Type} : Left H := { results := [], args := [] }

/-- 'carracklaw10.CarveFits': WHATEVER THE INPUT: true; the input reads as it did. -/
def carveFitsSpec : ChangeSpec := { name := "carveFits", fn := fun _ => fun
  | [d1, d2, d3] => { results := [.lit (.bool true)], args := [d1, d2, d3] }
  | _ => none }
def carveFitsRow : OpenClaim := { program := "ytoamlkljfmgomaagreat", sum := "769fb0e9c83a7e9683297a87404a56bf85dc3c5e39be6d9149c1f8927f8d8024", func := "carrack/carracklaw10.CarveFits", spec := "carveFits", inPlace := ["math/bits.Add64"], unfollowed := true, recurses := true, apart := false }
def CarveFitsSaid : Prop := carveFitsRow.holds Tryz.pinned (OpenSpec.ofChange carveFitsSpec)

/-- ITS FALSE NEIGHBOUR: 'it returns false'. Refute it at one input. -/
def carveFitsWrong : ChangeSpec := { name := "carveFits", fn := fun _ => fun
  | [d1, d2, d3] => { results := [.lit (.bool false)], args := [d1, d2, d3] }
  | _ => none }
def CarveFitsWrongFalsely : Prop := carveFitsRow.holds Tryz.pinned (OpenSpec.ofChange carveFitsWrong)

/-- 'carracklaw10.CarveTakes': WHATEVER THE INPUT: true; the input reads as it did. -/
def carveTakesSpec : ChangeSpec := { name := "carveTakes", fn := fun _ => fun
  | [d1, d2, d3] => { results := [.lit (.bool true)], args := [d1, d2, d3] }
  | _ => none }
def carveTakesRow : OpenClaim := { program := "ytoamlkljfmgomaagreat", sum := "769fb0e9c83a7e9683297a87404a56bf85dc3c5e39be6d9149c1f8927f8d8024", func := "carrack/carracklaw10.CarveTakes", spec := "carveTakes", inPlace := ["math/bits.Add64"], unfollowed := true, recurses := true, apart := false }
def CarveTakesSaid : Prop := carveTakesRow.holds Tryz.pinned (OpenSpec.ofChange carveTakesSpec)

/-- ITS FALSE NEIGHBOUR: 'it returns false'. Refute it at one input. -/
def carveTakesWrong : ChangeSpec := { name := "carveTakes", fn := fun _ => fun
  | [d1, d2, d3] => { results := [.lit (.bool false)], args := [d1, d2, d3] }
  | _ => none }
def CarveTakesWrongFalsely : Prop := carveTakesRow.holds Tryz.pinned (OpenSpec.ofChange carveTakesWrong)

/-- 'carracklaw10.CarveZeros': WHATEVER THE INPUT: true; the input reads as it did. -/
def carveZerosSpec : ChangeSpec := { name := "carveZeros", fn := fun _ => fun
  | [d1, d2] => { results := [.lit (.bool true)], args := [d1, d2] }
  | _ => none }
def carveZerosRow : OpenClaim := { program := "ytoamlkljfmgomaagreat", sum := "769fb0e9c83a7e9683297a87404a56bf85dc3c5e39be6d9149c1f8927f8d8024", func := "carrack/carracklaw10.CarveZeros", spec := "carveZeros", inPlace := ["math/bits.Add64"], unfollowed := true, recurses := true, apart := false }
def CarveZerosSaid : Prop := carveZerosRow.holds Tryz.pinned (OpenSpec.ofChange carveZerosSpec)

/-- ITS FALSE NEIGHBOUR: 'it returns false'. Refute it at one input. -/
def carveZerosWrong : ChangeSpec := { name := "carveZeros", fn := fun _ => fun
  | [d1, d2] => { results := [.lit (.bool false)], args := [d1, d2] }
  | _ => none }
def CarveZerosWrongFalsely : Prop := carveZerosRow.holds Tryz.pinned (OpenSpec.ofChange carveZerosWrong)

/-- 'carracklaw10.CarveBest': WHATEVER THE INPUT: true; the input reads as it did. -/
def carveBestSpec : ChangeSpec := { name := "carveBest", fn := fun _ => fun
  | [d1, d2] => { results := [.lit (.bool true)], args := [d1, d2] }
  | _ => none }
def carveBestRow : OpenClaim := { program := "ytoamlkljfmgomaagreat", sum := "769fb0e9c83a7e9683297a87404a56bf85dc3c5e39be6d9149c1f8927f8d8024", func := "carrack/carracklaw10.CarveBest", spec := "carveBest", inPlace := ["math/bits.Add64"], unfollowed := true, recurses := true, apart := false }
def CarveBestSaid : Prop := carveBestRow.holds Tryz.pinned (OpenSpec.ofChange carveBestSpec)

/-- ITS FALSE NEIGHBOUR: 'it returns false'. Refute it at one input. -/
def carveBestWrong : ChangeSpec := { name := "carveBest", fn := fun _ => fun
  | [d1, d2] => { results := [.lit (.bool false)], args := [d1, d2] }
  | _ => none }
def CarveBestWrongFalsely : Prop := carveBestRow.holds Tryz.pinned (OpenSpec.ofChange carveBestWrong)

/-- 'carracklaw10.CarveStays': WHATEVER THE INPUT: true; the input reads as it did. -/
def carveStaysSpec : ChangeSpec := { name := "carveStays", fn := fun _ => fun
  | [d1, d2] => { results := [.lit (.bool true)], args := [d1, d2] }
  | _ => none }
def carveStaysRow : OpenClaim := { program := "ytoamlkljfmgomaagreat", sum := "769fb0e9c83a7e9683297a87404a56bf85dc3c5e39be6d9149c1f8927f8d8024", func := "carrack/carracklaw10.CarveStays", spec := "carveStays", inPlace := ["math/bits.Add64"], unfollowed := true, recurses := true, apart := false }
def CarveStaysSaid : Prop := carveStaysRow.holds Tryz.pinned (OpenSpec.ofChange carveStaysSpec)

/-- ITS FALSE NEIGHBOUR: 'it returns false'. Refute it at one input. -/
def carveStaysWrong : ChangeSpec := { name := "carveStays", fn := fun _ => fun
  | [d1, d2] => { results := [.lit (.bool false)], args := [d1, d2] }
  | _ => none }
def CarveStaysWrongFalsely : Prop := carveStaysRow.holds Tryz.pinned (OpenSpec.ofChange carveStaysWrong)

/-- 'carracklaw10.CarveNone': WHATEVER THE INPUT: true; the input reads as it did. -/
def carveNoneSpec : ChangeSpec := { name := "carveNone", fn := fun _ => fun
  | [d1, d2, d3] => { results := [.lit (.bool true)], args := [d1, d2, d3] }
  | _ => none }
def carveNoneRow : OpenClaim := { program := "ytoamlkljfmgomaagreat", sum := "769fb0e9c83a7e9683297a87404a56bf85dc3c5e39be6d9149c1f8927f8d8024", func := "carrack/carracklaw10.CarveNone", spec := "carveNone", inPlace := ["math/bits.Add64"], unfollowed := true, recurses := true, apart := false }
def CarveNoneSaid : Prop := carveNoneRow.holds Tryz.pinned (OpenSpec.ofChange carveNoneSpec)

/-- ITS FALSE NEIGHBOUR: 'it returns false'. Refute it at one input. -/
def carveNoneWrong : ChangeSpec := { name := "carveNone", fn := fun _ => fun
  | [d1, d2, d3] => { results := [.lit (.bool false)], args := [d1, d2, d3] }
  | _ => none }
def CarveNoneWrongFalsely : Prop := carveNoneRow.holds Tryz.pinned (OpenSpec.ofChange carveNoneWrong)

/- THE SECOND FORM. 'bulk': how many values and letters a reading holds, each counted each time it is reached (what is shared counts as often as it is met; a slice's spare places count too). A statement '..UptoSaid' is the law's where the arguments, and the package variables that the reading takes, are together of bulk at most 1048576: NARROWER than '..Said'. Prove '..Said' where nothing that the law and all that it calls make is longer than what came in: it says more and counts as full. Else prove '..UptoSaid'. A law counts once. -/
mutual
def uptoBulk {H : Type} : DataW H → Nat
  | .lit (.string bytes) => bytes.length + 1
  | .lit _ => 1
  | .nil => 1
  | .ptr d => uptoBulk d + 1
  | .slice elems spare => uptoBulkAll elems + uptoBulkAll spare + 1
  | .agg parts => uptoBulkAll parts + 1
  | .iface _ d => uptoBulk d + 1
  | .map entries => uptoBulkEntries entries + 1
  | .held _ => 1
def uptoBulkAll {H : Type} : List (DataW H) → Nat
  | [] => 0
  | d :: r => uptoBulk d + uptoBulkAll r
def uptoBulkEntries {H : Type} : List (Lit × DataW H) → Nat
  | [] => 0
  | x :: r => uptoBulkEntry x + uptoBulkEntries r
def uptoBulkEntry {H : Type} : Lit × DataW H → Nat
  | (.string bytes, d) => bytes.length + uptoBulk d + 1
  | (_, d) => uptoBulk d + 1
 end
def uptoSmall : (H : Type) → List (DataW H) → Bool := fun _ ds => decide (uptoBulkAll ds ≤ 1048576)
def OpenSpec.upto (s : _root_.Go.ChangeSpec) : _root_.Go.OpenSpec := { _root_.Go.OpenSpec.ofChange s with cond := some uptoSmall }

/-- 'carracklaw10.CarveFits', WHERE WHAT IT READS IS OF BULK AT MOST 1048576: true; the input reads as it did. -/
def carveFitsUptoRow : OpenClaim := { program := "ytoamlkljfmgomaagreat", sum := "769fb0e9c83a7e9683297a87404a56bf85dc3c5e39be6d9149c1f8927f8d8024", func := "carrack/carracklaw10.CarveFits", spec := "carveFits", inPlace := ["math/bits.Add64"], unfollowed := true, recurses := true, apart := false, narrowed := true }
def CarveFitsUptoSaid : Prop := carveFitsUptoRow.holds Tryz.pinned (OpenSpec.upto carveFitsSpec)

/-- 'carracklaw10.CarveTakes', WHERE WHAT IT READS IS OF BULK AT MOST 1048576: true; the input reads as it did. -/
def carveTakesUptoRow : OpenClaim := { program := "ytoamlkljfmgomaagreat", sum := "769fb0e9c83a7e9683297a87404a56bf85dc3c5e39be6d9149c1f8927f8d8024", func := "carrack/carracklaw10.CarveTakes", spec := "carveTakes", inPlace := ["math/bits.Add64"], unfollowed := true, recurses := true, apart := false, narrowed := true }
def CarveTakesUptoSaid : Prop := carveTakesUptoRow.holds Tryz.pinned (OpenSpec.upto carveTakesSpec)

/-- 'carracklaw10.CarveZeros', WHERE WHAT IT READS IS OF BULK AT MOST 1048576: true; the input reads as it did. -/
def carveZerosUptoRow : OpenClaim := { program := "ytoamlkljfmgomaagreat", sum := "769fb0e9c83a7e9683297a87404a56bf85dc3c5e39be6d9149c1f8927f8d8024", func := "carrack/carracklaw10.CarveZeros", spec := "carveZeros", inPlace := ["math/bits.Add64"], unfollowed := true, recurses := true, apart := false, narrowed := true }
def CarveZerosUptoSaid : Prop := carveZerosUptoRow.holds Tryz.pinned (OpenSpec.upto carveZerosSpec)

/-- 'carracklaw10.CarveBest', WHERE WHAT IT READS IS OF BULK AT MOST 1048576: true; the input reads as it did. -/
def carveBestUptoRow : OpenClaim := { program := "ytoamlkljfmgomaagreat", sum := "769fb0e9c83a7e9683297a87404a56bf85dc3c5e39be6d9149c1f8927f8d8024", func := "carrack/carracklaw10.CarveBest", spec := "carveBest", inPlace := ["math/bits.Add64"], unfollowed := true, recurses := true, apart := false, narrowed := true }
def CarveBestUptoSaid : Prop := carveBestUptoRow.holds Tryz.pinned (OpenSpec.upto carveBestSpec)

/-- 'carracklaw10.CarveStays', WHERE WHAT IT READS IS OF BULK AT MOST 1048576: true; the input reads as it did. -/
def carveStaysUptoRow : OpenClaim := { program := "ytoamlkljfmgomaagreat", sum := "769fb0e9c83a7e9683297a87404a56bf85dc3c5e39be6d9149c1f8927f8d8024", func := "carrack/carracklaw10.CarveStays", spec := "carveStays", inPlace := ["math/bits.Add64"], unfollowed := true, recurses := true, apart := false, narrowed := true }
def CarveStaysUptoSaid : Prop := carveStaysUptoRow.holds Tryz.pinned (OpenSpec.upto carveStaysSpec)

/-- 'carracklaw10.CarveNone', WHERE WHAT IT READS IS OF BULK AT MOST 1048576: true; the input reads as it did. -/
def carveNoneUptoRow : OpenClaim := { program := "ytoamlkljfmgomaagreat", sum := "769fb0e9c83a7e9683297a87404a56bf85dc3c5e39be6d9149c1f8927f8d8024", func := "carrack/carracklaw10.CarveNone", spec := "carveNone", inPlace := ["math/bits.Add64"], unfollowed := true, recurses := true, apart := false, narrowed := true }
def CarveNoneUptoSaid : Prop := carveNoneUptoRow.holds Tryz.pinned (OpenSpec.upto carveNoneSpec)

end Rows
end Go.Proofs.YtoamlkljfmgomaaGreat
