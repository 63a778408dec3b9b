/-
  Texts of one layer, one behind the other: memory, contracts of the functions, and what follows of them.
  Conditions: as each theorem says.
-/
import Derived.Test.YtcbdbflgfhbikaaGreatLTrg
import Derived.Test.YtcbdbflgfhbikaaGreatLTre
import Derived.Test.YtcbdbflgfhbikaaGreatTxP
import Derived.Test.YtcbdbflgfhbikaaGreatLTrf
import Derived.Test.YtcbdbflgfhbikaaGreatLTaa
import Derived.Test.YtcbdbflgfhbikaaGreatLPha
import Derived.Test.YtcbdbflgfhbikaaGreatLPhc
import Derived.Test.YtcbdbflgfhbikaaGreatLTrb
import Derived.Test.YtcbdbflgfhbikaaGreatLTra
import Derived.Test.YtcbdbflgfhbikaaGreatLHea
import Derived.Test.YtcbdbflgfhbikaaGreatLTxb
set_option linter.unusedVariables false
set_option linter.unusedSimpArgs false
namespace Go.Proofs.YtcbdbflgfhbikaaGreat
open Go.RowKit Go.Shelf
set_option maxRecDepth 100000
attribute [local go_sem] Oper.semAt_some
section
variable {w : World} {T M : Nat} {R : Option Nat} {B D : Nat} {ws : List Nat} {l l' : List (Nat × Nat)} {z : Nat → Nat} {F S : List Nat}
theorem Rests.of {lb B : Nat} {I : List Nat → World → Prop} (h : ∀ s A C row, I s A → A.grownBy C row → (∀ r, row = some r → B ≤ r ∧ r ≠ lb ∧ ¬ RowAt lb A r) → I s C) (hc : ∀ s A, I s A → ∃ c t fr, A.heap[lb]? = some (.cells c t fr) ∧ t ≠ 23 ∧ ∀ b, RowAt lb A b → ∃ c' t' fr', A.heap[b]? = some (.cells c' t' fr')) : Rests lb B I := fun s A C row hs hg hr => h s A C row hs hg fun r e => by
  obtain ⟨h1, h2⟩ := hr r e
  obtain ⟨c, t, fr, h3, h4, h5⟩ := hc s A hs
  rcases h2 with ⟨o, h6, h7⟩ | ⟨⟨c', fr', h6⟩, h8⟩
  · refine ⟨h1, fun e2 => ?_, fun hra => ?_⟩
    · subst e2; rw [h3] at h6; cases h6; cases h7
    · obtain ⟨c', t', fr', h8⟩ := h5 r hra
      rw [h8] at h6; cases h6; cases h7
  · refine ⟨h1, fun e2 => ?_, h8⟩
    subst e2
    rw [h3] at h6
    injection h6 with h6
    injection h6 with _ h6
    exact h4 h6
def atL (l : List Nat) (x : Nat) : Nat := l.getD x 0
structure AfI (w : World) (pre : List Nat) (W : World) : Prop where
  none_ : pre = []
  res1 : Boxed W w.heap.size 23 (.int .u64 0)
  res2 : Boxed W (w.heap.size + 1) 4 (.bool false)
  below : Below w.heap.size w W
structure AfX (w : World) (Tl : List Nat) (c : Code) (pre : List Nat) (W : World) : Prop where
  jump : c = .ret
  one : pre.length = 1
  res1 : ∀ x, pre = [x] → Boxed W w.heap.size 23 (.int .u64 (atL Tl x : Nat))
  res2 : Boxed W (w.heap.size + 1) 4 (.bool true)
  below : Below w.heap.size w W
theorem boxed_past {A C : World} {row : Option Nat} {b n : Nat} {t : TypeId} {v : Value} (h : Boxed A b t v) (hg : A.grownBy C row) (hr : ∀ r, row = some r → n ≤ r) (hb : b < n) : Boxed C b t v :=
  (hg.block b (lt_of_block h) fun e => by have := hr b e.symm; omega).trans h
theorem AfI.rests (w : World) (n lb : Nat) (hn : w.heap.size + 2 ≤ n) : Rests lb n (AfI w) := fun s A C row hs hg hr =>
  ⟨hs.none_, boxed_past hs.res1 hg (fun r e => (hr r e).1) (by omega), boxed_past hs.res2 hg (fun r e => (hr r e).1) (by omega), hs.below.grown hg hs.below.size (fun k e => by have := (hr k e).1; omega)⟩
theorem AfX.rests (w : World) (n lb : Nat) (Tl : List Nat) (hn : w.heap.size + 2 ≤ n) (c : Code) : Rests lb n (AfX w Tl c) := fun s A C row hs hg hr =>
  ⟨hs.jump, hs.one, fun x e => boxed_past (hs.res1 x e) hg (fun r e => (hr r e).1) (by omega), boxed_past hs.res2 hg (fun r e => (hr r e).1) (by omega), hs.below.grown hg hs.below.size (fun k e => by have := (hr k e).1; omega)⟩
set_option maxHeartbeats 4000000 in
theorem tafter_in (h : Thinks w T M R B D ws l) (hB : Bed ws l z F) (hT : Tame z F S) (ht : TreeOf (txSee ws l) rkN (txSee ws l 32) S) (hlen : S.length ≤ 1000000) (s o : Nat) :
    CallsIn Fence.wide 6 Tryz.prog 87 #[.pointer (some ⟨T, 0, none⟩), .int .u64 s, .int .u64 o] w fun e w' => e = .returned (.tuple #[.int .u64 (atL (gtL z s o S) 0 : Nat), .bool (decide (0 < (gtL z s o S).length))]) ∧ w.grownBy w' none := by
  have hbh : ∀ V : World, CallsIn Fence.wide 5 Tryz.prog 132 #[.agg #[.pointer (some ⟨T, 0, none⟩)], .agg #[.int .u64 s, .int .u64 o]] V _ := fun V => (callsIn_wide (n := 5)).2 (behind_any T s o V)
  have hg0 : w.grownBy ((w.alloc (.cells #[.int .u64 0] 23)).alloc (.cells #[.bool false] 4)) none := grown_trans (World.grownBy_alloc _ _ _) (World.grownBy_alloc _ _ _)
  have h1 : ((w.alloc (.cells #[.int .u64 0] 23)).alloc (.cells #[.bool false] 4)).heap[w.heap.size]? = some (.cells #[.int .u64 0] 23 (0, 0)) := (Below.heap_alloc _ _ _ (by simp)).trans (heap_alloc_new' w _)
  have h2 : ((w.alloc (.cells #[.int .u64 0] 23)).alloc (.cells #[.bool false] 4)).heap[w.heap.size + 1]? = some (.cells #[.bool false] 4 (0, 0)) := by
    have := heap_alloc_new' (w.alloc (.cells #[.int .u64 0] 23)) (.cells #[.bool false] 4)
    rwa [World.size_alloc] at this
  have hsz0 : ((w.alloc (.cells #[.int .u64 0] 23)).alloc (.cells #[.bool false] 4)).heap.size = w.heap.size + 2 := by simp
  obtain ⟨Tl, eTl⟩ : ∃ Tl, gtL z s o S = Tl := ⟨_, rfl⟩
  rw [eTl]
  refine callsIn_of_wp_marks Tryz.func87 rfl trivial ?_ rfl
  simp only [Tryz.ntmps87, List.size_toArray, List.length_cons, List.length_nil, Nat.reduceAdd, Nat.reduceSub, Array.replicate_succ, Array.replicate_zero, List.push_toArray, List.append_toArray, List.nil_append, List.cons_append]
  gi_wp2_with (first | (refine ⟨trivial, ?_⟩; gi_at_call 132; (with_reducible refine (hbh _).mono ?_); rintro e w2 ⟨rfl, rfl⟩))
  obtain ⟨W1, hW1⟩ : ∃ W1, (w.alloc (.cells #[.int .u64 0] 23)).alloc (.cells #[.bool false] 4) = W1 := ⟨_, rfl⟩
  rw [hW1] at hg0 h1 h2 hsz0 ⊢
  have hgA : W1.grownBy ((W1.alloc (.cells #[.pointer (some ⟨T, 0, none⟩)] 135)).alloc (.cells #[.int .u64 s, .int .u64 o] 140)) none := grown_trans (World.grownBy_alloc _ _ _) (World.grownBy_alloc _ _ _)
  have hbw : ((W1.alloc (.cells #[.pointer (some ⟨T, 0, none⟩)] 135)).alloc (.cells #[.int .u64 s, .int .u64 o] 140)).heap[w.heap.size + 2]? = some (.cells #[.pointer (some ⟨T, 0, none⟩)] 135 (0, 0)) := by
    have := heap_alloc_new' W1 (.cells #[.pointer (some ⟨T, 0, none⟩)] 135)
    rw [hsz0] at this
    exact (Below.heap_alloc _ _ _ (by simp; omega)).trans this
  have hbk : ((W1.alloc (.cells #[.pointer (some ⟨T, 0, none⟩)] 135)).alloc (.cells #[.int .u64 s, .int .u64 o] 140)).heap[w.heap.size + 3]? = some (.cells #[.int .u64 s, .int .u64 o] 140 (0, 0)) := by
    have := heap_alloc_new' (W1.alloc (.cells #[.pointer (some ⟨T, 0, none⟩)] 135)) (.cells #[.int .u64 s, .int .u64 o] 140)
    rw [World.size_alloc, hsz0] at this
    exact this
  have hszA : ((W1.alloc (.cells #[.pointer (some ⟨T, 0, none⟩)] 135)).alloc (.cells #[.int .u64 s, .int .u64 o] 140)).heap.size = w.heap.size + 4 := by simp [hsz0]
  have k1 := two_held1 h1 hgA
  have k2 := two_held1 h2 hgA
  obtain ⟨W0, hW0⟩ : ∃ W0, (W1.alloc (.cells #[.pointer (some ⟨T, 0, none⟩)] 135)).alloc (.cells #[.int .u64 s, .int .u64 o] 140) = W0 := ⟨_, rfl⟩
  rw [hW0] at hgA hbw hbk hszA k1 k2 ⊢
  have hG := grown_trans hg0 hgA
  have hno : ∀ b, ¬ RowAt (w.heap.size + 1) W0 b := fun b ⟨u, q1, q2⟩ => by
    rw [cell_of_one k2] at q1
    injection q1 with q1
    subst q1
    simp [Value.ownBlock] at q2
  have hseq := behind1_tells h hB hT ht hlen s o (w.heap.size + 2) (w.heap.size + 3) (w.heap.size + 1) (grown_below hG) hbw hbk (by omega) (by omega) (by omega) (fun b hb => absurd hb (hno b))
  replace hseq : TellsG 5 146 #[.pointer (some ⟨w.heap.size + 2, 0, none⟩), .pointer (some ⟨w.heap.size + 3, 0, none⟩)] (fun x => #[.int .u64 (atL (gtL z s o S) x : Nat)]) (gtL z s o S).length (w.heap.size + 1) w.heap.size W0 := hseq
  rw [eTl] at hseq
  clear h1 h2 hg0 hsz0 hW1 hW0 hbh h hB hT ht hbw hbk hno eTl hgA
  refine range_tells (by decide) (gf := 146) (cb := #[.pointer (some ⟨w.heap.size + 2, 0, none⟩), .pointer (some ⟨w.heap.size + 3, 0, none⟩)]) rfl (enters_of Tryz.func146 (by kernel_rfl) rfl) hseq (Below.refl _ _) hG.size (by omega) (fun _ => rfl) (AfI w) (AfX w Tl) (AfI.rests w _ _ (by omega)) (AfX.rests w _ _ _ (by omega)) ⟨rfl, k1, k2, grown_below hG⟩
    (fun x => { tmps := #[.pointer (some ⟨T, 0, none⟩), .int .u64 s, .int .u64 o, undef, undef, undef, .pointer (some ⟨w.heap.size, 0, none⟩), .pointer (some ⟨w.heap.size + 1, 0, none⟩), .int .u64 (atL Tl x : Nat), .pointer (some ⟨T, 0, none⟩), .agg #[.pointer (some ⟨T, 0, none⟩)], .int .u64 s, .int .u64 o, .agg #[.int .u64 s, .int .u64 o], .func (.func 146) #[] #[.pointer (some ⟨w.heap.size + 2, 0, none⟩), .pointer (some ⟨w.heap.size + 3, 0, none⟩)], .int .u64 (atL Tl x : Nat), undef], defers := [] }) ?assign ?body ?done ?stop
  case assign =>
    intro yl x W K hK
    gi_wp2
    exact hK
  case body =>
    rintro yl pre x W hI hlt
    have c1 := hI.res1.cell
    have f1 := hI.res1.frozen
    have c2 := hI.res2.cell
    have f2 := hI.res2.frozen
    have hp := hI.none_
    subst hp
    gi_wp2
    have q1 := (hI.res1.set (.int .u64 (atL Tl x : Nat))).kept (grown_set _ (w.heap.size + 1) 0 (.bool true)) (by simp)
    have q2 := (hI.res2.kept (grown_set _ w.heap.size 0 (.int .u64 (atL Tl x : Nat))) (by simp)).set (.bool true)
    exact ⟨((KeepsOthers.setCell _ _ _).trans (KeepsOthers.setCell _ _ _)).from _, ⟨rfl, rfl, fun y e => by (have e2 : x = y := by simpa using e); subst e2; exact q1, q2, (hI.below.setCell (p := ⟨w.heap.size, 0, none⟩) (Nat.le_refl _) _).setCell (p := ⟨w.heap.size + 1, 0, none⟩) (Nat.le_succ _) _⟩⟩
  case done =>
    rintro D2 W hD hI hK
    have hN : Tl = [] := by
      have := congrArg List.length hI.none_
      simp at this
      exact List.length_eq_zero_iff.1 (by simpa using this)
    subst hN
    have c1 := hI.res1.cell
    have f1 := hI.res1.frozen
    have c2 := hI.res2.cell
    have f2 := hI.res2.frozen
    gi_wp2
    have hK2 := ((KeepsOthers.setCell W ⟨w.heap.size, 0, none⟩ (.int .u64 0)).trans (KeepsOthers.setCell _ ⟨w.heap.size + 1, 0, none⟩ (.bool false))).same D2 _ hK rfl
    have b1 := (hI.res1.set (.int .u64 0)).kept (grown_set _ (w.heap.size + 1) 0 (.bool false)) (by simp)
    have b2 := (hI.res2.kept (grown_set _ w.heap.size 0 (.int .u64 0)) (by simp)).set (.bool false)
    have hBB := (hI.below.setCell (p := ⟨w.heap.size, 0, none⟩) (Nat.le_refl _) (.int .u64 0)).setCell (p := ⟨w.heap.size + 1, 0, none⟩) (Nat.le_succ _) (.bool false)
    obtain ⟨W2, hW2⟩ : ∃ W2, (W.setCell ⟨w.heap.size, 0, none⟩ (.int .u64 0)).setCell ⟨w.heap.size + 1, 0, none⟩ (.bool false) = W2 := ⟨_, rfl⟩
    rw [hW2] at hK2 b1 b2 hBB ⊢
    have d1 := (b1.kept (grownBy_putObj' W2 D2 (.deferred none)) (by simp; omega)).cell
    have d2 := (b2.kept (grownBy_putObj' W2 D2 (.deferred none)) (by simp; omega)).cell
    refine ⟨by simp, .inl ⟨_, _, rfl, run_takeDeferred hK2, ?_⟩⟩
    refine ⟨.tuple #[.int .u64 0, .bool false], by simp [results, Tryz.results87, go_sem, d1, d2], rfl, below_grown (hBB.trans (belowK_b (w := w) (Nat.le_refl _) W2 D2 _ _ (by omega) hK2 rfl rfl))⟩
  case stop =>
    rintro D2 c m W hD hm hX hK
    obtain rfl := hX.jump
    have hm1 : m = 1 := by simpa using hX.one
    subst hm1
    have hr1 := hX.res1 0 rfl
    have hr2 := hX.res2
    have hN : decide (0 < Tl.length) = true := decide_eq_true hm
    gi_wp2
    have d1 := (hr1.kept (grownBy_putObj' W D2 (.deferred none)) (by simp; omega)).cell
    have d2 := (hr2.kept (grownBy_putObj' W D2 (.deferred none)) (by simp; omega)).cell
    refine ⟨by simp, .inl ⟨_, _, rfl, run_takeDeferred hK, ?_⟩⟩
    refine ⟨.tuple #[.int .u64 (atL Tl 0 : Nat), .bool true], by simp [results, Tryz.results87, go_sem, d1, d2], by rw [hN], below_grown (hX.below.trans (belowK_b (w := w) (Nat.le_refl _) W D2 _ _ (by omega) hK rfl rfl))⟩
theorem tafter_any (h : Thinks w T M R B D ws l) (hB : Bed ws l z F) (hT : Tame z F S) (ht : TreeOf (txSee ws l) rkN (txSee ws l 32) S) (hlen : S.length ≤ 1000000) (s o : Nat) :
    Calls Tryz.prog 87 #[.pointer (some ⟨T, 0, none⟩), .int .u64 s, .int .u64 o] w fun e w' => e = .returned (.tuple #[.int .u64 (atL (gtL z s o S) 0 : Nat), .bool (decide (0 < (gtL z s o S).length))]) ∧ w.grownBy w' none := callsIn_wide.1 (tafter_in h hB hT ht hlen s o)
end
end Go.Proofs.YtcbdbflgfhbikaaGreat
namespace Go.Proofs.YtcbdbflgfhbikaaGreat
open Go.RowKit
def TW (w0 w : World) (T : Nat) (R : Option Nat) (ws : List Nat) (z : Nat → Nat) (F L : List Nat) : Prop :=
  ∃ M B D l, Txs w0 w T M R B D ws l ∧ Bed ws l z F ∧ TreeIs (txSee ws l) z F L
section
variable {w0 w w' w2 : World} {T : Nat} {R R' R2 : Option Nat} {ws : List Nat} {z : Nat → Nat} {F L K : List Nat} {off base : Nat} {v : Value} {xs : List Nat} {la : Option Addr} {c : Nat}
theorem TW.later (h : TW w0 w T R ws z F L) (hg : w.grownBy w' none) : TW w0 w' T R ws z F L := by
  obtain ⟨M, B, D, l, h1, h2, h3⟩ := h
  exact ⟨M, B, D, l, h1.later hg, h2, h3⟩
theorem TW.since (h : TW w0 w T R ws z F L) : w0.grownBy w none := by
  obtain ⟨M, B, D, l, h1, h2, h3⟩ := h
  exact h1.since
theorem TW.perm (h : TW w0 w T R ws z F L) (hp : L.Perm K) : TW w0 w T R ws z F K := by
  obtain ⟨M, B, D, l, h1, h2, h3⟩ := h
  exact ⟨M, B, D, l, h1, h2, h3.perm hp⟩
theorem TW.nodup (h : TW w0 w T R ws z F L) : L.Nodup := by
  obtain ⟨M, B, D, l, h1, h2, h3⟩ := h
  exact h3.nodup
theorem TW.sub (h : TW w0 w T R ws z F L) : ∀ x, x ∈ L → x ∈ F := by
  obtain ⟨M, B, D, l, h1, h2, h3⟩ := h
  exact h3.sub
theorem TW.free (h : TW w0 w T R ws z F L) : FreeL F := by
  obtain ⟨M, B, D, l, h1, h2, h3⟩ := h
  exact h3.free
theorem short_of : ∀ (n : Nat) {L : List Nat}, L.Nodup → (∀ x, x ∈ L → x < n) → L.length ≤ n
  | 0, L, _, h => by
    cases L with
    | nil => exact Nat.le_refl _
    | cons a L => exact absurd (h a (by simp)) (Nat.not_lt_zero _)
  | n + 1, L, hn, h => by
    by_cases hm : n ∈ L
    · have h1 := (List.perm_cons_erase hm).length_eq
      have h2 := short_of n (L := L.erase n) (hn.erase n) fun x hx => by
        have h3 := (hn.mem_erase_iff).1 hx
        have h4 := h x h3.2
        have h5 := h3.1
        omega
      simp only [List.length_cons] at h1
      omega
    · have := short_of n hn fun x hx => by
        have h4 := h x hx
        have h5 : x ≠ n := fun e => hm (e ▸ hx)
        omega
      omega
theorem FreeL.few (h : FreeL F) (hs : ∀ x, x ∈ L → x ∈ F) (hn : L.Nodup) : L.length ≤ 4800 :=
  short_of 4800 hn fun x hx => by
    have := h.on x (hs x hx)
    omega
end
end Go.Proofs.YtcbdbflgfhbikaaGreat
namespace Go.Proofs.YtcbdbflgfhbikaaGreat
open Go.RowKit
theorem lie_at {w : World} {base : Nat} {a : Option Addr} {n c : Nat} {l : List Nat} (h : OwnW w base (.slice a n c) l) : WordsAt w a l := by
  obtain ⟨a', c', e, h'⟩ := h.lie
  cases e
  exact h'
theorem KW.lie {w : World} {R : Option Nat} {base : Nat} {a : Option Addr} {n c : Nat} {l : List Nat} (h : KW w R base (.slice a n c) l) : WordsAt w a l := lie_at h.1
theorem KW.own {w : World} {R : Option Nat} {base : Nat} {v : Value} {l : List Nat} (h : KW w R base v l) : OwnW w base v l := h.1
theorem KW.new {w0 w w' : World} {T : Nat} {R : Option Nat} {ws : List Nat} {z : Nat → Nat} {F L xs : List Nat} {v : Value} {base : Nat} (h : TW w0 w T R ws z F L) (ho : OwnW w' base v xs) (hb : w.heap.size ≤ base) : KW w' R base v xs := by
  refine ⟨ho, fun g hg e => ?_⟩
  obtain ⟨M, B, D, l, h1, _, _⟩ := h
  have h2 := h1.tx.ltR e
  have h3 := (World.ownsRow.lt ho g hg).1
  omega
theorem TW.row {w0 w w' : World} {T : Nat} {R : Option Nat} {ws : List Nat} {z : Nat → Nat} {F L J : List Nat} {v : Value} {base : Nat} (X : TW w0 w T R ws z F L) (K : KW w R base v J) (hb : w0.heap.size ≤ base) (hg : w.grownBy w' v.ownBlock) : TW w0 w' T R ws z F L := by
  obtain ⟨M, B, D, l, h1, h2, h3⟩ := X
  refine ⟨M, B, D, l, ⟨h1.tx.turned (Turned.of_grown hg) (fun k hk => ?_), grown_step h1.since hg (fun i hi => .inl (Nat.le_trans hb (World.ownsRow.lt K.1 i hi).1)), h1.newT, h1.newM, h1.newR, h1.newB, h1.newD⟩, h2, h3⟩
  obtain ⟨_, cur, hbk⟩ := row_block K.1 hk
  obtain ⟨tv, k1, _⟩ := h1.tx.head
  obtain ⟨Da, k2, _⟩ := h1.tx.map
  obtain ⟨es, clock, k2⟩ := map_block k2
  refine ⟨?_, fun e => ne_type hbk h1.tx.seg.head (by decide) e, fun e => ne_type hbk h1.tx.seg.data (by decide) e⟩
  rintro (e | e | e)
  · exact ne_type hbk k1 (by decide) e
  · exact ne_map hbk k2 e
  · exact K.2 k hk e
theorem TW.app {w0 w w' : World} {T : Nat} {R : Option Nat} {ws : List Nat} {z : Nat → Nat} {F L J F' : List Nat} {v v' fv : Value} {base y : Nat} (X : TW w0 w T R ws z F L) (K : KW w R base v J) (hb : w0.heap.size ≤ base) (KF : KW w R w0.heap.size fv F') (hne : ∀ g, fv.ownBlock = some g → v.ownBlock ≠ some g)
    (hg : w.grownBy w' v.ownBlock) (hl : v'.ownBlock = v.ownBlock ∨ v'.ownBlock = some (w.heap.size + 1)) (ho : OwnW w' base v' (J ++ [y])) : TW w0 w' T R ws z F L ∧ KW w' R base v' (J ++ [y]) ∧ KW w' R w0.heap.size fv F' := by
  refine ⟨X.row K hb hg, ⟨ho, fun g e e2 => ?_⟩, ⟨World.ownsRow.kept KF.1 hg ?_, KF.2⟩⟩
  · rcases hl with h | h
    · exact K.2 g (by rw [← h]; exact e) e2
    · rw [h] at e
      obtain ⟨M, B, D, l, h1, _, _⟩ := X
      have h2 := h1.tx.ltR e2
      injection e with e
      omega
  · by_cases e : fv.ownBlock = none
    · exact .inl e
    · obtain ⟨g, hg2⟩ := Option.ne_none_iff_exists'.1 e
      refine .inr fun e2 => ?_
      rw [hg2] at e2
      exact hne g hg2 (e2.symm ▸ rfl)
end Go.Proofs.YtcbdbflgfhbikaaGreat
