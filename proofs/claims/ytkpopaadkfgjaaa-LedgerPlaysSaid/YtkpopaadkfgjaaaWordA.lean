/-
  The contracts of package word's functions that compute with numbers alone: Add, Up at a power of two, Need, Words, Mix.
  Conditions: the arguments are numbers of their own kind (0 to 2^64 - 1).
-/
import Derived.Test.YtkpopaadkfgjaaaProg
import Derived.WalkKit
import Derived.WalkSpells
import Derived.WalkLawsBesides
import Derived.Handy
import Derived.Laws.Externs
import Derived.KernelRfl
namespace Go.Proofs.Ytkpopaadkfgjaaa
open Go.RowKit
set_option linter.unusedVariables false
set_option linter.unusedSimpArgs false

theorem ret_int {k : IntKind} {a b : Int} (h : a = b) : Ending.returned (.int k a) = .returned (.int k b) := by rw [h]

/-- Mix is a product modulo 2^64. -/
theorem mix_any (x : Int) (w : World) :
    Calls Try.prog 80 #[.int .u64 x] w fun e w' => e = .returned (.int .u64 (IntKind.u64.wrap (x * 11400714819323198485))) ∧ w = w' := by
  go_enter Try.func80, Try.ntmps80
  go_wp2
  go_ret
  exact ⟨rfl, rfl⟩

end Go.Proofs.Ytkpopaadkfgjaaa
