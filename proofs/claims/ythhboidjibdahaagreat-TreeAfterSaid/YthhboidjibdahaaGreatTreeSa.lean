/-
  The plain answer of layer 7: Size, less, Turned.
  Conditions: the numbers lie in memory, or are the call's own; they are at most a million.
-/
import Derived.Test.YthhboidjibdahaaGreatTreeA
import Derived.Test.YthhboidjibdahaaGreatTreeK
import Derived.Test.YthhboidjibdahaaGreatLTx
import Derived.Test.YthhboidjibdahaaGreatLTag
import Derived.Maps.AppendAt
namespace Go.Proofs.YthhboidjibdahaaGreat
open Go.RowKit
set_option linter.unusedVariables false
set_option linter.unusedSimpArgs false
set_option maxRecDepth 100000

theorem wpList_append_num {w2 : World} {ops : Array Oper} {rest : List Oper} {o : Oper} {a : Act} {Q : Exit → Act → World → Prop} (hgd : o.guard = none) (s x : Operand)
    (ho : o.op = .call { callee := .builtin .append, args := #[s, x], argTypes := #[26, 26] })
    (base : Nat) (v : Value) (xs : List Nat) (hs : a.eval s = v) (hown : OwnW w2 base v xs) (y : Nat)
    (hx : a.eval x = .slice (some ⟨w2.heap.size, 0, none⟩) 1 1) (hn : xs.length ≤ 10000000) (hbase : base ≤ w2.heap.size)
    (h : ∀ v' w', OwnW w' base v' (xs ++ [y]) → w2.grownBy w' v.ownBlock → (v'.ownBlock = v.ownBlock ∨ v'.ownBlock = some (w2.heap.size + 1)) → wpList Tryz.prog ops Q rest (a.put o.dst v') w') :
    wpList Tryz.prog ops Q (o :: rest) a (w2.alloc (.cells #[.int .u64 (y : Nat)] 33)) := by
  obtain ⟨i0, hi, hz0, hz1, hz2⟩ := info_parts info_u64
  refine wpList_append_own_at _ hgd s x 26 ho base 33 i0 (.int .u64 0) 1 8 Tryz.underlying26 hi hz0 hz1 hz2 rfl (by decide) v xs.length (cellsU xs) hs (World.ownsRow.alloc hown _) ⟨w2.heap.size, 0, none⟩ 1 1 [.int .u64 (y : Nat)] hx rfl (cell_one_new _ _ _) (by simp [Value.oneCell']) (by unfold maxLen; omega) (by omega) (by rw [World.size_alloc]; omega) fun v' w' h1 h2 _ h4 => h v' w' ?_ (grown_trans (grown_any (World.grownBy_alloc _ _ none) _) h2) (by rw [World.size_alloc] at h4; exact h4)
  unfold OwnW
  have e1 : cellsU (xs ++ [y]) = cellsU xs ++ [.int .u64 (y : Nat)] := by simp [cellsU]
  rw [e1, List.length_append]
  exact h1
/-- an empty row of the call's own -/
theorem own_empty (w : World) (base : Nat) (hb : base ≤ w.heap.size) : OwnW (w.alloc (.cells #[] 33)) base (.slice (some ⟨w.heap.size, 0, none⟩) 0 0) [] :=
  ⟨rfl, .inr ⟨_, 0, #[], rfl, hb, heap_alloc_new' _ _, Nat.le_refl _, by unfold maxLen; omega, rfl, rfl⟩⟩
section
variable {w : World} {base : Nat} {wv pv : Value} {ws : List Nat} {l : List (Nat × Nat)}
set_option maxHeartbeats 1000000 in
theorem rsize_any (h : RTx w base wv pv ws l) (hm : ws.length ≤ 131072) (hl : l.length ≤ 1000000) (hlt : ∀ q, txSee ws l q < 18446744073709551616) (off : Nat) (ho : off < 18446744073709551616) :
    Calls Tryz.prog 33 #[.agg #[wv, pv], .int .u64 off] w fun e w' => e = .returned (.int .u64 (tS (txSee ws l off) : Nat)) ∧ w.grownBy w' none := by
  have hg0 : w.grownBy (w.alloc (.cells #[wv, pv] 29)) none := World.grownBy_alloc _ _ _
  have hld := rtxload_any (h.later hg0) hm hl off ho
  have hx64 := hlt off
  obtain ⟨x, hx⟩ : ∃ x, txSee ws l off = x := ⟨_, rfl⟩
  rw [hx] at hld hx64 ⊢
  have hun := fun w1 => rtunpack_any x hx64 w1
  obtain ⟨s, hs⟩ : ∃ s, tS x = s := ⟨_, rfl⟩
  obtain ⟨u, hu⟩ : ∃ u, tU x = u := ⟨_, rfl⟩
  obtain ⟨o, hoo⟩ : ∃ o, tO x = o := ⟨_, rfl⟩
  obtain ⟨m, hmm⟩ : ∃ m, decide (mayW x) = m := ⟨_, rfl⟩
  rw [hs, hu, hoo, hmm] at hun
  rw [hs]
  obtain ⟨wa, wc, wg, hwv, _, _⟩ := OwnW.addr h.words
  obtain ⟨pa, pc, pg, hpv, _, _⟩ := h.puts.addr
  subst hwv hpv
  clear hs hu hoo hmm hx h hlt
  go_enter Tryz.func33, Tryz.ntmps33
  go_wp2_with (first | (go_at_call 40; (with_reducible refine hld.mono ?_); rintro e w1 ⟨rfl, hg1⟩) | (go_at_call 54; (with_reducible refine (hun _).mono ?_); rintro e w2 ⟨rfl, hg2⟩))
  go_ret
  exact ⟨rfl, grown_trans hg0 (grown_trans hg1 (grown_trans hg2 (World.grownBy_alloc _ _ _)))⟩
set_option maxHeartbeats 1000000 in
theorem rless_any (h : RTx w base wv pv ws l) (hm : ws.length ≤ 131072) (hl : l.length ≤ 1000000) (hlt : ∀ q, txSee ws l q < 18446744073709551616) (a s o : Nat) (ho : a < 18446744073709551616) :
    Calls Tryz.prog 32 #[.agg #[wv, pv], .int .u64 a, .int .u64 s, .int .u64 o] w fun e w' => e = .returned (.bool (decide (keyLt (fun x => tS (txSee ws l x)) a s o))) ∧ w.grownBy w' none := by
  have hg0 : w.grownBy (w.alloc (.cells #[wv, pv] 29)) none := World.grownBy_alloc _ _ _
  have hsz := rsize_any (h.later hg0) hm hl hlt a ho
  unfold keyLt
  simp only
  obtain ⟨x, hx⟩ : ∃ x, tS (txSee ws l a) = x := ⟨_, rfl⟩
  rw [hx] at hsz
  simp only [hx]
  obtain ⟨wa, wc, wg, hwv, _, _⟩ := OwnW.addr h.words
  obtain ⟨pa, pc, pg, hpv, _, _⟩ := h.puts.addr
  subst hwv hpv
  clear hx h hlt
  by_cases h1 : x < s
  · have e1 : (x : Int) < (s : Int) := by omega
    rw [decide_eq_true (.inl h1)]
    go_enter Tryz.func32, Tryz.ntmps32
    go_wp2_with (first | (go_at_call 33; (with_reducible refine hsz.mono ?_); rintro e w1 ⟨rfl, hg1⟩))
    go_ret
    exact ⟨rfl, grown_trans hg0 hg1⟩
  · have e1 : ¬ (x : Int) < (s : Int) := by omega
    by_cases h2 : x = s
    · subst h2
      by_cases h3 : a < o
      · have e3 : (a : Int) < (o : Int) := by omega
        rw [decide_eq_true (.inr ⟨rfl, h3⟩)]
        go_enter Tryz.func32, Tryz.ntmps32
        go_wp2_with (first | (go_at_call 33; (with_reducible refine hsz.mono ?_); rintro e w1 ⟨rfl, hg1⟩))
        go_ret
        exact ⟨rfl, grown_trans hg0 hg1⟩
      · have e3 : ¬ (a : Int) < (o : Int) := by omega
        rw [decide_eq_false (by omega)]
        go_enter Tryz.func32, Tryz.ntmps32
        go_wp2_with (first | (go_at_call 33; (with_reducible refine hsz.mono ?_); rintro e w1 ⟨rfl, hg1⟩))
        go_ret
        exact ⟨rfl, grown_trans hg0 hg1⟩
    · have e2 : ¬ (x : Int) = (s : Int) := by omega
      rw [decide_eq_false (by omega)]
      go_enter Tryz.func32, Tryz.ntmps32
      go_wp2_with (first | (go_at_call 33; (with_reducible refine hsz.mono ?_); rintro e w1 ⟨rfl, hg1⟩))
      go_ret
      exact ⟨rfl, grown_trans hg0 hg1⟩
end
end Go.Proofs.YthhboidjibdahaaGreat
