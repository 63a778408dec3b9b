/-
  Texts of one layer, one behind the other: memory, contracts of the functions, and what follows of them.
  Conditions: as each theorem says.
-/
import Derived.Test.YtmcnpenihoaajaaGreatLCaa
import Derived.Deep.Slices
import Derived.Laws.StructEq
import Derived.Deep.AppendLies
import Derived.Test.YtmcnpenihoaajaaGreatLTaa
import Derived.Test.YtmcnpenihoaajaaGreatLTxa
import Derived.Test.YtmcnpenihoaajaaGreatLTra
import Derived.Test.YtmcnpenihoaajaaGreatLWoa
import Derived.BigQuiet
import Derived.Test.YtmcnpenihoaajaaGreatLCla
import Derived.Maps.OwnIn
import Derived.Test.YtmcnpenihoaajaaGreatLTrd
import Derived.Test.YtmcnpenihoaajaaGreatLPha
import Derived.Test.YtmcnpenihoaajaaGreatLClb
import Derived.StillTailTactics
import Derived.Deep.RegionHeld3
import Derived.Deep.QuietTactic
import Derived.Laws.AppendOwnNone
import Derived.RangeFuncCalls
import Derived.TacticsInMore
import Derived.OrdersIn
import Derived.Test.YtmcnpenihoaajaaGreatLSea
import Derived.Test.YtmcnpenihoaajaaGreatLPhb
set_option linter.unusedVariables false
set_option linter.unusedSimpArgs false
namespace Go.Proofs.YtmcnpenihoaajaaGreat
open Go.RowKit
def lstB (L : Nat → List Nat) (b : Blk) : Nat → List Nat := if b.o = 0 then L else setL L (b.o.toNat - 1) ((L (b.o.toNat - 1)).filter fun y => decide (y ≠ b.off))
end Go.Proofs.YtmcnpenihoaajaaGreat
namespace Go.Proofs.YtmcnpenihoaajaaGreat
open Go.RowKit
set_option maxRecDepth 100000
abbrev hC (E : Nat) (la : Option Addr) (n c : Nat) (va : Nat → Option Addr) (ln vc : Nat → Nat) : Array Value := #[.int .u64 E, .slice la n c, .slice (va 0) (ln 0) (vc 0), .slice (va 1) (ln 1) (vc 1), .slice (va 2) (ln 2) (vc 2), .slice (va 3) (ln 3) (vc 3), .slice (va 4) (ln 4) (vc 4), .slice (va 5) (ln 5) (vc 5), .slice (va 6) (ln 6) (vc 6), .slice (va 7) (ln 7) (vc 7)]
section
variable {w0 W W' : World} {base hb rb E n c : Nat} {la la' : Option Addr} {n' c' : Nat} {va : Nat → Option Addr} {ln vc : Nat → Nat} {hcs rcs hcs' : Array Value} {v v' : Value} {l k : List Blk}
end
end Go.Proofs.YtmcnpenihoaajaaGreat
namespace Go.Proofs.YtmcnpenihoaajaaGreat
open Go.RowKit
set_option maxRecDepth 100000
section
variable {w0 w : World} {T M : Nat} {R : Option Nat} {B D : Nat} {ws : List Nat} {l : List (Nat × Nat)} {E k : Nat} {bs A C : List Blk} {b : Blk} {L : Nat → List Nat} {f g h : Nat → Nat}
theorem Txs.box {w' : World} {o : Nat} {c : Array Value} {t : TypeId} (X : Txs w0 w T M R B D ws l) (hb : w.heap[o]? = some (.cells c t (0, 0))) (h1 : t ≠ 109) (h2 : t ≠ 22) (h3 : t ≠ 51) (h4 : t ≠ 5) (hn : w0.heap.size ≤ o) (hg : w.grownBy w' (some o)) : Txs w0 w' T M R B D ws l :=
  ⟨X.tx.turned (Turned.of_grown hg) (fun k hk => by
    injection hk with hk
    subst hk
    exact ⟨X.tx.far hb h1 h2, fun e => ne_type hb X.tx.seg.head h3 e, fun e => ne_type hb X.tx.seg.data h4 e⟩), grown_step X.since hg (fun i hi => .inl (by injection hi with hi; omega)), X.newT, X.newM, X.newR, X.newB, X.newD⟩
end
end Go.Proofs.YtmcnpenihoaajaaGreat
namespace Go.Proofs.YtmcnpenihoaajaaGreat
open Go.RowKit
set_option maxRecDepth 100000
theorem bs_amid {bs : List Blk} {i : Nat} (hi : i < bs.length) : bs = bs.take i ++ bs.getD i default :: bs.drop (i + 1) := by
  have h1 : bs.getD i default = bs[i] := by rw [List.getD_eq_getElem?_getD, List.getElem?_eq_getElem hi]; rfl
  rw [h1, ← List.drop_eq_getElem_cons hi, List.take_append_drop]
def HX (w0 w : World) (T : Nat) (R : Option Nat) (ws : List Nat) (E : Nat) (bs : List Blk) (L : Nat → List Nat) (x v : Nat) : Prop :=
  8 * ws.length = 4800 ∧ ∃ M B D l, Txs w0 w T M R B D ws l ∧ SoundF (txSee ws l) E bs L ∧ txSee ws l x = v
section
variable {w0 w w' : World} {T : Nat} {R : Option Nat} {ws : List Nat} {E p k base x y : Nat} {bs : List Blk} {L : Nat → List Nat} {v : Value}
theorem HX.heap (h : HX w0 w T R ws E bs L x y) : HW w0 w T R ws E bs L := by
  obtain ⟨h0, M, B, D, l, h1, h2, _⟩ := h
  exact ⟨h0, M, B, D, l, h1, h2⟩
theorem HW.word (h : HW w0 w T R ws E bs L) (x : Nat) : ∃ y, y < 18446744073709551616 ∧ HX w0 w T R ws E bs L x y := by
  obtain ⟨h0, M, B, D, l, h1, h2⟩ := h
  exact ⟨_, txSee_lt h1.tx.seg.words h1.tx.ok x, h0, M, B, D, l, h1, h2, rfl⟩
theorem HX.later (h : HX w0 w T R ws E bs L x y) (hg : w.grownBy w' none) : HX w0 w' T R ws E bs L x y := by
  obtain ⟨h0, M, B, D, l, h1, h2, h3⟩ := h
  exact ⟨h0, M, B, D, l, h1.later hg, h2, h3⟩
end
end Go.Proofs.YtmcnpenihoaajaaGreat
namespace Go.Proofs.YtmcnpenihoaajaaGreat
open Go.ChangeShapes Go.WideShapes Go.ChangeAt Go.RowKit
set_option maxRecDepth 100000
set_option maxHeartbeats 1000000 in
theorem pwalk_nil (w : World) :
    Calls Tryz.prog 46 #[.pointer none] w fun e w' => e = .returned (.tuple #[.slice none 0 0, .int .i64 12]) ∧ w.grownBy w' none := by
  have hg0 : w.grownBy ((w.alloc (.cells #[.slice none 0 0] 63)).alloc (.cells #[.int .i64 0] 27)) none := grown_trans (World.grownBy_alloc _ _ _) (World.grownBy_alloc _ _ _)
  have hck := hcheck_nil ((w.alloc (.cells #[.slice none 0 0] 63)).alloc (.cells #[.int .i64 0] 27))
  have hb2 : ((w.alloc (.cells #[.slice none 0 0] 63)).alloc (.cells #[.int .i64 0] 27)).heap[w.heap.size]? = some (.cells #[.slice none 0 0] 63 (0, 0)) :=
    (Below.heap_alloc _ _ _ (by simp)).trans (heap_alloc_new' w _)
  have hb3 : ((w.alloc (.cells #[.slice none 0 0] 63)).alloc (.cells #[.int .i64 0] 27)).heap[w.heap.size + 1]? = some (.cells #[.int .i64 0] 27 (0, 0)) := by
    have := heap_alloc_new' (w.alloc (.cells #[.slice none 0 0] 63)) (.cells #[.int .i64 0] 27)
    rwa [World.size_alloc] at this
  go_enter Tryz.func46, Tryz.ntmps46
  go_wp2_with (go_at_call 79; (with_reducible refine hck.mono ?_); rintro e w1 ⟨rfl, hg1⟩; have k2 : Boxed w1 w.heap.size 63 (.slice none 0 0) := (hg1.block _ (lt_of_block hb2) (by simp)).trans hb2; have k3 : Boxed w1 (w.heap.size + 1) 27 (.int .i64 0) := (hg1.block _ (lt_of_block hb3) (by simp)).trans hb3; have c2 := k2.cell; have c3 := k3.cell; have f2 := k2.frozen; have f3 := k3.frozen)
  have d2 := ((k2.set (.slice none 0 0)).kept (grown_set _ (w.heap.size + 1) 0 (.int .i64 12)) (by simp)).cell
  have d3 := ((k3.kept (grown_set _ w.heap.size 0 (.slice none 0 0)) (by simp)).set (.int .i64 12)).cell
  refine bodyPost_ret (v := .tuple #[.slice none 0 0, .int .i64 12]) (by simp [results, Tryz.results46, go_sem, d2, d3]) rfl ?_
  have G := grown_trans hg0 hg1
  exact ⟨rfl, grown_new (grown_trans (grown_new (grown_trans (grown_any G _) (grown_set _ _ _ _)) (Nat.le_refl _) |> fun g => grown_any g (some (w.heap.size + 1))) (grown_set _ _ _ _)) (by omega)⟩
end Go.Proofs.YtmcnpenihoaajaaGreat
