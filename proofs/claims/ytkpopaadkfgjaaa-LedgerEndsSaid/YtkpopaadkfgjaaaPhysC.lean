/-
  Package phys: the contract of Walk: all blocks, in a row of the call's own, or that they are none.
  Conditions: the Tx stands in memory.
-/
import Derived.Test.YtkpopaadkfgjaaaPhysB
import Derived.Test.YtkpopaadkfgjaaaLHead
namespace Go.Proofs.Ytkpopaadkfgjaaa
open Go.RowKit Go.Shelf
set_option linter.unusedVariables false
set_option linter.unusedSimpArgs false
attribute [local go_sem] Oper.semAt_some

def Xo (f : Nat → Nat) (k : Nat) : Nat := (bkR f (offs f k)).off
def Xs (f : Nat → Nat) (k : Nat) : Nat := (bkR f (offs f k)).s
def Xu (f : Nat → Nat) (k : Nat) : Bool := (bkR f (offs f k)).u
def Xw (f : Nat → Nat) (k : Nat) : Int := (bkR f (offs f k)).o
def Xn (f : Nat → Nat) (k : Nat) : Nat := (bkR f (offs f k)).n
def Xe (f : Nat → Nat) (k : Nat) : Nat := bkE f (offs f k)
theorem Xrow (f : Nat → Nat) (k : Nat) : (bkR f (offs f k)).row = [.int .u64 (Xo f k : Nat), .int .u64 (Xs f k : Nat), .bool (Xu f k), .int .i64 (Xw f k), .int .u64 (Xn f k : Nat)] := rfl
theorem Xe_or (f : Nat → Nat) (k : Nat) : Xe f k = 0 ∨ Xe f k = 12 := by
  unfold Xe bkE
  split
  · exact .inl rfl
  · exact .inr rfl
theorem cells_five_new (W : World) (t : TypeId) (x y z p q : Value) : ∀ j u, [x, y, z, p, q][j]? = some u → (W.alloc (.cells #[x, y, z, p, q] t)).cell? ((⟨W.heap.size, 0, none⟩ : Addr).add j) = some u := by
  intro j u hj
  have hb : (W.alloc (.cells #[x, y, z, p, q] t)).heap[W.heap.size]? = some (.cells #[x, y, z, p, q] t (0, 0)) := heap_alloc_new' _ _
  have hadd : ∀ j, (⟨W.heap.size, 0, none⟩ : Addr).add j = ⟨W.heap.size, j, none⟩ := fun j => by unfold Addr.add; split <;> simp_all
  rw [hadd]
  unfold World.cell?
  simp only [hb]
  rcases j with _ | _ | _ | _ | _ | j
  all_goals first | (simp at hj; subst hj; rfl) | (simp at hj)
/-- the blocks of these places, as cells -/
def cellsK (f : Nat → Nat) (pre : List Nat) : List Value := cellsB (pre.map fun k => bkR f (offs f k))
theorem cellsK_snoc (f : Nat → Nat) (pre : List Nat) (k : Nat) : cellsK f (pre ++ [k]) = cellsK f pre ++ (bkR f (offs f k)).row := by
  unfold cellsK
  rw [List.map_append]
  exact cellsB_snoc _ _
theorem cellsK_all {f : Nat → Nat} {N : Nat} {ok : Bool} (h : Walks f N ok) : cellsK f (List.range N) = cellsB (blks f N) := by
  unfold cellsK blks
  congr 1
  refine List.map_congr_left fun k hk => ?_
  exact (bk_yes (h.lt k (List.mem_range.1 hk)).2).1
/-- A row of the call's own that holds these blocks (or nil, of none); t: which package's blocks. -/
def OwnB (w : World) (base : Nat) (t : TypeId) (v : Value) (l : List Blk) : Prop := w.ownsRow base t 5 v l.length (cellsB l)
theorem boxed_from (n B : Nat) (t : TypeId) (v : Value) {β : Type} : OwnFrom n (fun (_ : β) W => Boxed W B t v) := fun s X Y row hs hg hr => by
  refine (hg.block B (lt_of_block hs) (fun e => ?_)).trans hs
  obtain ⟨_, o, ho, hc⟩ := hr B e.symm
  rw [show X.heap[B]? = _ from hs] at ho; cases ho; cases hc
theorem row_form {w : World} {base : Nat} {t : TypeId} {sz k : Nat} {v : Value} {xs : List Value} (h : w.ownsRow base t sz v k xs) : ∃ a n c, v = .slice a n c := by
  rcases h.2 with ⟨hv, _⟩ | ⟨g, cap, cur, hv, _⟩
  · exact ⟨_, _, _, hv⟩
  · exact ⟨_, _, _, hv⟩
/-- a body that has appended to the row that its variable leads to -/
theorem bk_appended {W w1 : World} {n0 base lb k cap g : Nat} {t e : TypeId} {v : Value} {tmp : Obj} {ys : List Value} (hv : Boxed W lb t v) (hb2 : Below n0 W (w1.setCell ⟨lb, 0, none⟩ (.slice (some ⟨g, 0, none⟩) (k + 1) cap)))
    (hv2 : Boxed (w1.setCell ⟨lb, 0, none⟩ (.slice (some ⟨g, 0, none⟩) (k + 1) cap)) lb t (.slice (some ⟨g, 0, none⟩) (k + 1) cap)) (hown : w1.ownsRow base e 5 (.slice (some ⟨g, 0, none⟩) (k + 1) cap) (k + 1) ys) (hgrow : (W.alloc tmp).grownBy w1 v.ownBlock) (hf : k = 0 → W.heap.size ≤ base) :
    BkKeep n0 lb W (w1.setCell ⟨lb, 0, none⟩ (.slice (some ⟨g, 0, none⟩) (k + 1) cap)) := by
  have hcv : W.cell? ⟨lb, 0, none⟩ = some v := cell_of_one hv
  have hga := World.grownBy_alloc W tmp none
  have hs1 := hga.size
  have hs2 := hgrow.size
  have hs3 : w1.heap.size ≤ (w1.setCell ⟨lb, 0, none⟩ (.slice (some ⟨g, 0, none⟩) (k + 1) cap)).heap.size := (grown_set w1 lb 0 _).size
  refine ⟨hb2, fun b hb hn hr => ?_, fun b hb => ?_⟩
  · have hlt := hb.lt
    refine ((grown_set w1 lb 0 _).block b (by omega) (fun e => hn (by injection e))).trans ?_
    refine (hgrow.block b (by omega) (fun e => hr ⟨v, hcv, e.symm⟩)).trans ?_
    exact hga.block b hlt (by simp)
  · obtain ⟨u, h1, h2⟩ := hb
    rw [cell_of_one hv2] at h1
    injection h1 with h1
    subst h1
    have hgb : g = b := by simpa [Value.ownBlock] using h2
    subst hgb
    rcases hown.2 with ⟨he, _⟩ | ⟨g2, cap2, cur, heq, hbg, hg, hnc, hcm, hcs, htake⟩
    · cases he
    · injection heq with e1 e2 e3
      injection e1 with e1
      injection e1 with e1
      subst e1
      subst e3
      have hltg := lt_of_block hg
      by_cases hW : W.heap.size ≤ g
      · exact .inr (.inl ⟨hW, by omega⟩)
      · have hk : k ≠ 0 := fun e => hW (Nat.le_trans (hf e) hbg)
        by_cases hvg : v.ownBlock = some g
        · exact .inl ⟨v, hcv, hvg⟩
        · refine .inr (.inr (.inr ⟨by omega, fun hs => ?_⟩))
          obtain ⟨c, t', fr, hc, hsz⟩ := hs
          have h5 := (hgrow.block g (by omega) (fun e => hvg e.symm)).trans ((hga.block g (by omega) (by simp)).trans hc)
          rw [hg] at h5
          cases h5
          rw [hcs] at hsz
          omega
section
variable {w : World} {T M : Nat} {R : Option Nat} {B D : Nat} {ws : List Nat} {l : List (Nat × Nat)}
end
end Go.Proofs.Ytkpopaadkfgjaaa
