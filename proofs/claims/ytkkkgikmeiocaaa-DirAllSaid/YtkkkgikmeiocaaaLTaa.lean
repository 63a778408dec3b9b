/-
  Texts of one layer, one behind the other: memory, contracts of the functions, and what follows of them.
  Conditions: as each theorem says.
-/
import Derived.Shelf.RegionOpen
import Derived.Deep.QuietTactic
import Derived.BigQuiet
import Derived.Deep.LoopGhost
import Derived.Deep.RegionHeld3
import Derived.Test.YtkkkgikmeiocaaaLHea
import Derived.Test.YtkkkgikmeiocaaaLTxa
import Derived.Laws.StructEq
import Derived.Laws.Bits64
import Derived.Test.YtkkkgikmeiocaaaLWoa
import Derived.Test.YtkkkgikmeiocaaaLTxb
import Derived.StillTailTactics
import Derived.Test.YtkkkgikmeiocaaaLTxc
set_option linter.unusedVariables false
set_option linter.unusedSimpArgs false
namespace Go.Proofs.Ytkkkgikmeiocaaa
open Go.RowKit
theorem tag_cells {w : World} {b : Nat} {x y z : Value} {t : TypeId} (h : w.heap[b]? = some (.cells #[x, y, z] t (0, 0))) : w.cell? ⟨b, 0, none⟩ = some x ∧ w.cell? ⟨b, 1, none⟩ = some y ∧ w.cell? ⟨b, 2, none⟩ = some z := by
  exact ⟨by simp [World.cell?, h], by simp [World.cell?, h], by simp [World.cell?, h]⟩
end Go.Proofs.Ytkkkgikmeiocaaa
namespace Go.Proofs.Ytkkkgikmeiocaaa
open Go.RowKit
section
variable {w : World} {base : Nat} {wv pv : Value} {ws : List Nat} {l : List (Nat × Nat)}
theorem two_cells {w : World} {b : Nat} {x y : Value} {t : TypeId} (h : w.heap[b]? = some (.cells #[x, y] t (0, 0))) : w.cell? ⟨b, 0, none⟩ = some x ∧ w.cell? ⟨b, 1, none⟩ = some y := by
  exact ⟨by simp [World.cell?, h], by simp [World.cell?, h]⟩
end
end Go.Proofs.Ytkkkgikmeiocaaa
namespace Go.Proofs.Ytkkkgikmeiocaaa
open Go.RowKit
def fmt48 (n : Nat) : List Nat := fmt (List.replicate 600 0) n
theorem fmt48_len (n : Nat) : (fmt48 n).length = 600 := len48 n
theorem fmt48_yes {n : Nat} (h : fitsP n 4800) : fmt48 n = fmtW 600 n := by
  have hf : fitsP n (8 * (List.replicate 600 0).length) := by rw [List.length_replicate]; exact h
  unfold fmt48
  rw [(fmt_yes hf).1, List.length_replicate]
theorem fmt48_no {n : Nat} (h : ¬ fitsP n 4800) : fmt48 n = List.replicate 600 0 := by
  have hf : ¬ fitsP n (8 * (List.replicate 600 0).length) := by rw [List.length_replicate]; exact h
  unfold fmt48
  rw [(fmt_no hf).1]
theorem rformat48 (n : Nat) (hn : n < 18446744073709551616) (w : World) :
    Calls Try.prog 39 #[.int .u64 4800, .int .u64 n] w fun e w' => ∃ v k, e = .returned (.tuple #[v, .int .i64 k]) ∧ w.grownBy w' none ∧ OwnW w' w.heap.size v (fmt48 n) := by
  by_cases h : fitsP n 4800
  · have hc : Calls Try.prog 39 #[.int .u64 4800, .int .u64 n] w _ := rformat_yes 600 n (by decide) h w
    rw [fmt48_yes h]
    refine hc.mono ?_
    rintro e w' ⟨v, rfl, h1, h2⟩
    exact ⟨v, 0, rfl, h1, h2⟩
  · have hc : Calls Try.prog 39 #[.int .u64 4800, .int .u64 n] w _ := rformat_no 600 n (by decide) (by decide) h w
    rw [fmt48_no h]
    refine hc.mono ?_
    rintro e w' ⟨v, rfl, h1, h2⟩
    exact ⟨v, 2, rfl, h1, h2⟩
def Formed (w : World) (ws : List Nat) (l : List (Nat × Nat)) (e : Ending) (w' : World) : Prop :=
  ∃ B D T M R wv pv, e = .returned (.tuple #[.pointer (some ⟨T, 0, none⟩), .agg #[wv, pv]]) ∧ Txs w w' T M R B D ws l ∧ RTx w' w.heap.size wv pv ws l ∧ ∀ g, wv.ownBlock = some g → R ≠ some g
end Go.Proofs.Ytkkkgikmeiocaaa
namespace Go.Proofs.Ytkkkgikmeiocaaa
open Go.RowKit
theorem see_stored {ws : List Nat} {l : List (Nat × Nat)} {off v : Nat} (hs : stands ws off) (x : Nat) : txSee ws (txStore ws l off v) x = if x = off then v else txSee ws l x := by
  unfold txSee txStore
  rw [if_pos hs, txGet_set]
  by_cases e : x = off
  · rw [if_pos e, if_pos e]; rfl
  · rw [if_neg e, if_neg e]
theorem puts_none (w : World) : PutsAt w none 0 (fun _ => 0) (fun _ => 0) := ⟨fun _ => ⟨by decide, by decide⟩, fun h => absurd h (by decide)⟩
end Go.Proofs.Ytkkkgikmeiocaaa
