/-
  The contract of the plain answer Store: a row of its own with one word otherwise, or what came in and an error.
  Conditions: the words are a row of the call's own, or nil; the numbers are of 64 bits.
-/
import Derived.Test.YtkpopaadkfgjaaaSegR
namespace Go.Proofs.Ytkpopaadkfgjaaa
open Go.RowKit
set_option linter.unusedVariables false
set_option linter.unusedSimpArgs false

theorem rstore_no {w : World} {base : Nat} {v : Value} {ws : List Nat} (h : OwnW w base v ws) (hm : ws.length ≤ 131072) (off x : Nat) (ho : off < 18446744073709551616) (hno : ¬ stands ws off) :
    Calls Try.prog 81 #[v, .int .u64 off, .int .u64 x] w fun e w' => e = .returned (.tuple #[v, .int .i64 1]) ∧ w = w' := by
  have hc := rin_any h hm off ho
  rw [decide_eq_false hno] at hc
  go_enter Try.func81, Try.ntmps81
  go_wp2_with (go_at_call 68; refine hc.mono ?_; rintro e w' ⟨rfl, rfl⟩)
  go_ret2
  exact ⟨rfl, rfl⟩
theorem cellsU_set (ws : List Nat) (q x : Nat) : (cellsU ws).set q (.int .u64 (x : Nat)) = cellsU (ws.set q x) := by
  simp [cellsU, List.map_set]
theorem cellsU_one (ws : List Nat) : ∀ u ∈ cellsU ws, u.oneCell' = true := by
  intro u hu
  obtain ⟨b, _, rfl⟩ := List.mem_map.mp hu
  rfl
/-- What Store tells: a row of its own, and all that was there is as it was. -/
structure StorePost (w : World) (v' : Value) (ws : List Nat) (w' : World) : Prop where
  grown : w.grownBy w' none
  own : OwnW w' w.heap.size v' ws
theorem StorePost.made {w w1 : World} {ws : List Nat} {g cp q x : Nat} (hg : w.grownBy w1 none) (hb : w.heap.size ≤ g) (hown : OwnW w1 w.heap.size (.slice (some ⟨g, 0, none⟩) ws.length cp) ws) :
    StorePost w (.slice (some ⟨g, 0, none⟩) ws.length cp) (ws.set q x) (w1.setCell ⟨g, q, none⟩ (.int .u64 (x : Nat))) := by
  have hs := World.ownsRow.stored hown q (.int .u64 (x : Nat))
  refine ⟨grown_step hg hs.2 fun i hi => .inl (by injection hi; omega), ?_⟩
  unfold OwnW
  rw [List.length_set, ← cellsU_set]
  exact hs.1
/-- 'append([]uint64{}, w...)': a row of its own that holds the same words. -/
theorem wpList_append_all {w : World} {base : Nat} {ws : List Nat} {g0 c0 : Nat} (hw : OwnW w base (.slice (some ⟨g0, 0, none⟩) ws.length c0) ws) (hm : ws.length ≤ 131072) (h1 : 1 ≤ ws.length)
    {ops : Array Oper} {rest : List Oper} {o : Oper} {a : Act} {Q : Exit → Act → World → Prop} (hgd : o.guard = none) (s x : Operand)
    (ho : o.op = .call { callee := .builtin .append, args := #[s, x], argTypes := #[23, 23] })
    (hs : a.eval s = .slice (some ⟨w.heap.size, 0, none⟩) 0 0) (hx : a.eval x = .slice (some ⟨g0, 0, none⟩) ws.length c0)
    (h : ∀ g cp w', w.grownBy w' none → w.heap.size ≤ g → OwnW w' w.heap.size (.slice (some ⟨g, 0, none⟩) ws.length cp) ws → wpList Try.prog ops Q rest (a.put o.dst (.slice (some ⟨g, 0, none⟩) ws.length cp)) w') :
    wpList Try.prog ops Q (o :: rest) a (w.alloc (.cells #[] 30)) := by
  obtain ⟨i0, hi, hz0, hz1, hz2⟩ := info_parts info_u64
  have hown0 : (w.alloc (.cells #[] 30)).ownsRow w.heap.size 30 1 (.slice (some ⟨w.heap.size, 0, none⟩) 0 0) 0 [] := World.ownsRow_lit (base := w.heap.size) (e := 30) (size := 1) w #[] 0 (Nat.le_refl _) (by decide) rfl
  have hsrc : ∀ j u, (cellsU ws)[j]? = some u → (w.alloc (.cells #[] 30)).cell? ((⟨g0, 0, none⟩ : Addr).add j) = some u := World.ownsRow.cells (World.ownsRow.alloc hw _) rfl
  refine wpList_append_own _ hgd s x 23 ho w.heap.size 30 i0 (.int .u64 0) 1 8 Try.underlying23 hi hz0 hz1 hz2 rfl (by decide) _ 0 [] hs hown0 ⟨g0, 0, none⟩ ws.length c0 (cellsU ws) hx (by rw [cellsU_len, Nat.mul_one]) hsrc (cellsU_one ws) (by unfold maxLen; omega) (by omega) (by rw [World.size_alloc]; omega) ?_
  intro v' w1 hown hgrow _
  obtain ⟨g, cp, rfl, hgb, hgl⟩ := World.ownsRow.form hown (by omega)
  rw [Nat.zero_add, List.nil_append] at hown
  rw [Nat.zero_add]
  exact h g cp w1 (grown_new (grown_trans (grown_any (World.grownBy_alloc w (.cells #[] 30) none) _) hgrow) (Nat.le_refl _)) hgb hown
set_option maxHeartbeats 400000 in
theorem rstore_yes {w : World} {base : Nat} {v : Value} {ws : List Nat} (h : OwnW w base v ws) (hm : ws.length ≤ 131072) (q x : Nat) (hq : q < ws.length) :
    Calls Try.prog 81 #[v, .int .u64 (8 * q : Nat), .int .u64 x] w fun e w' => ∃ v', e = .returned (.tuple #[v', .int .i64 0]) ∧ StorePost w v' (ws.set q x) w' := by
  have hc := rin_any h hm (8 * q) (by omega)
  rw [decide_eq_true (show stands ws (8 * q) from ⟨by omega, by omega⟩)] at hc
  obtain ⟨g0, c0, rfl, hg0, hg0'⟩ := World.ownsRow.form h (by omega)
  obtain ⟨off, hoff⟩ : ∃ n, 8 * q = n := ⟨_, rfl⟩
  rw [hoff] at hc ⊢
  have hdiv : (off : Int) / 8 = (q : Int) := by omega
  have H := Lib.hid hoff
  clear hoff
  go_enter Try.func81, Try.ntmps81
  go_wp2_with (first | (go_at_call 68; refine hc.mono ?_; rintro e w' ⟨rfl, rfl⟩) | (at_builtin; go_must (refine wpList_append_all h hm (by omega) rfl _ _ rfl rfl rfl ?_); intro g cp w1 hgrow hgb hown; have hcell := OwnW.at_ hown q hq; have hfr := World.ownsRow.frozenAt hown q; have HN := Lib.hid hown; clear hown))
  go_ret2
  exact ⟨_, rfl, StorePost.made hgrow hgb HN.out⟩
end Go.Proofs.Ytkpopaadkfgjaaa
