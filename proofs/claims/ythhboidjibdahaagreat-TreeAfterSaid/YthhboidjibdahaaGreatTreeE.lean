/-
  Package tree: the contracts of split and join.
  Conditions: the Tx stands in memory; the words say trees of blocks.
-/
import Derived.Test.YthhboidjibdahaaGreatTreeD
import Derived.Test.YthhboidjibdahaaGreatTreeO
namespace Go.Proofs.YthhboidjibdahaaGreat
open Go.RowKit
set_option linter.unusedVariables false
set_option linter.unusedSimpArgs false

/-- split, however far it is still -/
def SplitE (f g z : Nat → Nat) (F l : List Nat) (off left right n : Nat) : Prop := ∃ k, SplitAt f g z F l off left right n k
/-- what split leaves -/
def SplitD (f g z : Nat → Nat) (l : List Nat) (off : Nat) : Prop :=
  ∃ a b, l = a ++ b ∧ (∀ x, x ∈ a → blkLt z x off) ∧ (∀ x, x ∈ b → blkLt z off x) ∧ TreeOf g rkN (g (off + 8)) a ∧ TreeOf g rkN (g (off + 16)) b ∧ ∀ q, q ≠ off + 8 → q ≠ off + 16 → (∀ x, x ∈ l → q ≠ x + 8 ∧ q ≠ x + 16) → g q = f q
section
variable {w : World} {T M : Nat} {R : Option Nat} {B D : Nat} {ws : List Nat} {l l' : List (Nat × Nat)} {z : Nat → Nat} {F S lst : List Nat} {off lk n k v left right : Nat}
theorem SplitAt.kept {f g : Nat → Nat} (hU : Under z F lst off) (h : SplitAt f g z F lst off left right n k) : Kept F f g := by
  obtain ⟨a, m, b, PL, PR, _, _, _, _, _, _, _, _, hf⟩ := h
  exact fun q h1 h2 => hf q (h2 off hU.mem).1 (h2 off hU.mem).2 fun x hx => h2 x (hU.sub x hx).1
theorem SplitAt.linkOf {f g : Nat → Nat} (hU : Under z F lst off) (h : SplitAt f g z F lst off left right n k) : LinkOf F left ∧ LinkOf F right := by
  obtain ⟨h1, h2⟩ := h.links
  constructor
  · rcases h1 with e | ⟨x, hx, e⟩
    · exact .inr ⟨off, hU.mem, .inl e⟩
    · exact .inr ⟨x, (hU.sub x hx).1, e⟩
  · rcases h2 with e | ⟨x, hx, e⟩
    · exact .inr ⟨off, hU.mem, .inr e⟩
    · exact .inr ⟨x, (hU.sub x hx).1, e⟩
theorem rank_pos (h0 : n ≠ 0) (hn : n < 18446744073709551616) : 0 < rkN n := by
  rcases Nat.eq_zero_or_pos (rkN n) with e | e
  · exact absurd (rkN_inj hn (by omega) (e.trans rkN_zero.symm)) h0
  · exact e
theorem rank_son {y : Nat} (h : y = 0 ∨ rkN y < rkN n) (h0 : 0 < rkN n) : rkN y < rkN n := by
  rcases h with rfl | h
  · rw [rkN_zero]; exact h0
  · exact h
set_option maxHeartbeats 4000000 in
theorem tsplit_any (h : Thinks w T M R B D ws l) (hB : Bed ws l z F) (hU : Under z F lst off) (below : Nat) (ht : TreeOf (txSee ws l) rkN below lst) :
    Calls Tryz.prog 26 #[.agg #[.pointer (some ⟨T, 0, none⟩)], .int .u64 below, .agg #[.int .u64 (z off), .int .u64 off]] w fun e w' => e = .returned (.tuple #[]) ∧ ∃ l', Thought w T M R B D ws l' w' ∧ SplitD (txSee ws l) (txSee ws l') z lst off := by
  have ho64 := (hB.first hU.mem).2
  have hst := split_start hU ht
  have hsub := hU.sub
  obtain ⟨zo, hzo⟩ : ∃ q, z off = q := ⟨_, rfl⟩
  rw [hzo]
  have HZ := Lib.hid hzo
  obtain ⟨f, ef⟩ : ∃ f, txSee ws l = f := ⟨_, rfl⟩
  rw [ef] at hst ⊢
  have e8 : IntKind.u64.wrap ((off : Int) + 8) = (off + 8 : Nat) := by rw [IntKind.wrap_u64]; omega
  have e16 : IntKind.u64.wrap ((off : Int) + 16) = (off + 16 : Nat) := by rw [IntKind.wrap_u64]; omega
  obtain ⟨o8, eo8⟩ : ∃ q, off + 8 = q := ⟨_, rfl⟩
  obtain ⟨o16, eo16⟩ : ∃ q, off + 16 = q := ⟨_, rfl⟩
  rw [eo8] at e8
  rw [eo16] at e16
  have hg0 : w.grownBy ((w.alloc (.cells #[.pointer (some ⟨T, 0, none⟩)] 61)).alloc (.cells #[.int .u64 zo, .int .u64 off] 66)) none := grown_trans (World.grownBy_alloc _ _ _) (World.grownBy_alloc _ _ _)
  have ha : ((w.alloc (.cells #[.pointer (some ⟨T, 0, none⟩)] 61)).alloc (.cells #[.int .u64 zo, .int .u64 off] 66)).heap[w.heap.size]? = some (.cells #[.pointer (some ⟨T, 0, none⟩)] 61 (0, 0)) := (Below.heap_alloc _ _ _ (by simp)).trans (heap_alloc_new' w _)
  have hb : ((w.alloc (.cells #[.pointer (some ⟨T, 0, none⟩)] 61)).alloc (.cells #[.int .u64 zo, .int .u64 off] 66)).heap[w.heap.size + 1]? = some (.cells #[.int .u64 zo, .int .u64 off] 66 (0, 0)) := by
    have := heap_alloc_new' (w.alloc (.cells #[.pointer (some ⟨T, 0, none⟩)] 61)) (.cells #[.int .u64 zo, .int .u64 off] 66)
    rwa [World.size_alloc] at this
  obtain ⟨W, hW⟩ : ∃ W, (w.alloc (.cells #[.pointer (some ⟨T, 0, none⟩)] 61)).alloc (.cells #[.int .u64 zo, .int .u64 off] 66) = W := ⟨_, rfl⟩
  rw [hW] at ha hb hg0
  have hTW := h.later hg0
  obtain ⟨b0, b1⟩ := two_cells hb
  have hbox : ∀ {wr : World} {l2 : List (Nat × Nat)}, Thought W T M R B D ws l2 wr → wr.heap[w.heap.size]? = some (.cells #[.pointer (some ⟨T, 0, none⟩)] 61 (0, 0)) ∧ wr.heap[w.heap.size + 1]? = some (.cells #[.int .u64 zo, .int .u64 off] 66 (0, 0)) := fun {wr l2} ⟨R', k1, k2, k3⟩ =>
    ⟨k2.heap ha (hTW.far ha (by decide) (by decide)), k2.heap hb (hTW.far hb (by decide) (by decide))⟩
  have H8 := Lib.hid eo8
  have H16 := Lib.hid eo16
  have HB := Lib.hid hB
  have HU := Lib.hid hU
  have HS := Lib.hid (show SplitE f f z F lst off o8 o16 below from ⟨_, by rw [← eo8, ← eo16]; exact hst⟩)
  have HTW := Lib.hid (Thought.same hTW (grown_drew (grown_refl W none)))
  have HG0 := Lib.hid hg0
  have HEF := Lib.hid ef
  clear hst eo8 eo16 hB hU ha hb hTW ht h hzo hg0 ef
  go_enter Tryz.func26, Tryz.ntmps26
  go_wp2
  go_region
  all_goals go_wp2
  go_loopw [6, 7, 8] (fun p q j wr => ∃ left right n l2, p = .int .u64 (left : Nat) ∧ q = .int .u64 (right : Nat) ∧ j = .int .u64 (n : Nat) ∧ SplitE f (txSee ws l2) z F lst off left right n ∧ Thought W T M R B D ws l2 wr) (fun p q j _ => rkN (intOf j).toNat)
  case atStart => exact ⟨o8, o16, below, l, rfl, rfl, rfl, HEF.out ▸ HS.out, HTW.out⟩
  case round =>
    obtain ⟨left, right, n, l2, rfl, rfl, rfl, hS, hTh⟩ := hrel
    obtain ⟨X1, X2⟩ := hbox hTh
    obtain ⟨R2, ht2, hq2, hr2⟩ := hTh
    obtain ⟨k0, hS0⟩ := hS
    have hBl := HB.out.kept (l' := l2) (HEF.out.symm ▸ hS0.kept HU.out)
    obtain ⟨hkL, hkR⟩ := hS0.linkOf HU.out
    have c0 := cell_of_one X1
    by_cases h0 : n = 0
    · subst h0
      have hl1 : Calls Tryz.prog 25 #[.agg #[.pointer (some ⟨T, 0, none⟩)], .int .u64 left, .int .u64 0] wr _ := tlead_any ht2 left 0 (hBl.stand hkL).1 (hBl.stand hkL).2 (by omega)
      have hl2 : ∀ (w1 : World) (R3 : Option Nat) (l3 : List (Nat × Nat)), Thinks w1 T M R3 B D ws l3 → Calls Tryz.prog 25 #[.agg #[.pointer (some ⟨T, 0, none⟩)], .int .u64 right, .int .u64 0] w1 _ := fun w1 R3 l3 h3 => tlead_any h3 right 0 (hBl.stand hkR).1 (hBl.stand hkR).2 (by omega)
      clear hkL hkR hBl
      go_wp2_with (first | (go_at_call 25; (with_reducible refine hl1.mono ?_); rintro e w3 ⟨rfl, l3, ⟨R3, ht3, hq3, hr3⟩, hl3⟩; have c3 := cell_of_one (hq3.heap X1 (ht2.far X1 (by decide) (by decide)))) | (go_at_call 25; (with_reducible refine (hl2 _ _ _ ht3).mono ?_); rintro e w4 ⟨rfl, l4, ht4, hl4⟩))
      go_end0
      exact ⟨rfl, l4, Thought.first HG0.out (Thought.trans hq2 hr2 (Thought.trans hq3 hr3 ht4)), split_end HU.out hS0 hl3.off hl3.at_ hl4.off hl4.at_⟩
    · have h0' : ¬ (n : Int) = 0 := by omega
      have hnF := hsub n (hS0.mem h0)
      have hn64 := (HB.out.first hnF.1).2
      have hkey := fun (w1 : World) (hg : wr.grownBy w1 none) => tkey_any (ht2.later hg) n (by omega)
      rw [hBl.keys n hnF.1] at hkey
      have hcmp := fun w => tcompare_grown (z n) n zo off w
      have hcell : ∀ {wq : World}, wr.grownBy wq none → wq.cell? ⟨w.heap.size, 0, none⟩ = some (.pointer (some ⟨T, 0, none⟩)) ∧ wq.cell? ⟨w.heap.size + 1, 0, none⟩ = some (.int .u64 zo) ∧ wq.cell? ⟨w.heap.size + 1, 1, none⟩ = some (.int .u64 off) := fun {wq} hg => ⟨cell_of_one ((hg.block _ (lt_of_block X1) (by simp)).trans X1), two_cells (two_held X2 hg)⟩
      have HG : wr.grownBy wr.drew none := grown_drew (grown_refl _ _)
      obtain ⟨d0, d1, d2⟩ := hcell HG
      clear c0
      by_cases hlt : blkLt z n off
      · skip
        have hlead := fun (w1 : World) (hg : wr.grownBy w1 none) => tlead_any (ht2.later hg) left n (hBl.stand hkL).1 (hBl.stand hkL).2 (by omega)
        have hnext := fun (l3 : List (Nat × Nat)) (hl : Led ws l2 left n l3) => split_left HU.out hS0 h0 (hlt) hl.off hl.at_
        have hkept := fun (l3 : List (Nat × Nat)) (hl : Led ws l2 left n l3) => hBl.led hkL hl
        obtain ⟨n8, e8⟩ : ∃ q, n + 16 = q := ⟨_, rfl⟩
        have e9 : IntKind.u64.wrap ((n : Int) + 16) = (n8 : Nat) := by rw [IntKind.wrap_u64]; omega
        have hn8 : n8 < 18446744073709551616 := by omega
        rw [e8] at hnext
        rw [cmpK_lt (show ltK (z n) n zo off by rw [← HZ.out]; exact hlt)] at hcmp
        have HNX := Lib.hid hnext
        have HKP := Lib.hid hkept
        have HRP := Lib.hid (rank_pos h0 (by omega))
        clear hnext hkept hkL hkR hBl h0 hlt hn64 hS0 hnF e8
        go_wp2
        go_region_held3 (fun wq => wq.cell? ⟨w.heap.size, 0, none⟩ = some (.pointer (some ⟨T, 0, none⟩)) ∧ wq.cell? ⟨w.heap.size + 1, 0, none⟩ = some (.int .u64 zo) ∧ wq.cell? ⟨w.heap.size + 1, 1, none⟩ = some (.int .u64 off)) (exact hcell HG) (first | (go_at_call 27; (with_reducible refine (hkey _ HG).mono ?_); rintro e w9 ⟨rfl, hg9⟩; replace HG := grown_trans HG hg9; obtain ⟨d0, d1, d2⟩ := hcell HG) | (go_at_call 49; (with_reducible refine (hcmp _).mono ?_); rintro e w9 ⟨rfl, hg9⟩; replace HG := grown_trans HG hg9; obtain ⟨d0, d1, d2⟩ := hcell HG))
        go_wp2_with (first | (go_at_call 25; (with_reducible refine (hlead _ HG).mono ?_); rintro e w6 ⟨rfl, l3, ⟨R3, ht3, hq3, hr3⟩, hl3⟩; have c6 := cell_of_one (hq3.heap ((HG.block _ (lt_of_block X1) (by simp)).trans X1) ((ht2.later HG).far ((HG.block _ (lt_of_block X1) (by simp)).trans X1) (by decide) (by decide))); have hld := txload_any ht3 n8 hn8; obtain ⟨y, hy⟩ : ∃ y, txSee ws l3 n8 = y := ⟨_, rfl⟩; rw [hy] at hld; have HY := Lib.hid hy; clear hy) | (go_at_call 24; (with_reducible refine hld.mono ?_); rintro e w7 ⟨rfl, hg7⟩))
        go_roundw
        case rel =>
          obtain ⟨⟨j, _, hj⟩, _⟩ : (∃ j, j < k0 ∧ SplitAt f (txSee ws l3) z F lst off n8 right (txSee ws l3 n8) j ∧ _) ∧ True := ⟨HNX.out l3 hl3, trivial⟩
          exact ⟨n8, right, y, l3, by go_num, by go_num, by go_num, ⟨j, HY.out ▸ hj.1⟩, Thought.trans hq2 hr2 (Thought.first HG (Thought.later ⟨R3, ht3, hq3, hr3⟩ hg7))⟩
        case measure =>
          obtain ⟨j, _, _, hj⟩ := HNX.out l3 hl3
          have := rank_son (HY.out ▸ hj) HRP.out
          simpa [intOf] using this
      · have hgt : cmpK (z n) n zo off = 1 := by
          have hl2 := blkLt.total hlt hnF.2
          rw [← HZ.out]
          unfold blkLt keyLt at hl2
          unfold cmpK
          rcases hl2 with h1 | ⟨h1, h2⟩
          · rw [cmpN_gt h1]; simp
          · rw [h1, cmpN_eq, if_pos rfl, cmpN_gt h2]
        have hlead := fun (w1 : World) (hg : wr.grownBy w1 none) => tlead_any (ht2.later hg) right n (hBl.stand hkR).1 (hBl.stand hkR).2 (by omega)
        have hnext := fun (l3 : List (Nat × Nat)) (hl : Led ws l2 right n l3) => split_right HU.out hS0 h0 (blkLt.total hlt hnF.2) hl.off hl.at_
        have hkept := fun (l3 : List (Nat × Nat)) (hl : Led ws l2 right n l3) => hBl.led hkR hl
        obtain ⟨n8, e8⟩ : ∃ q, n + 8 = q := ⟨_, rfl⟩
        have e9 : IntKind.u64.wrap ((n : Int) + 8) = (n8 : Nat) := by rw [IntKind.wrap_u64]; omega
        have hn8 : n8 < 18446744073709551616 := by omega
        rw [e8] at hnext
        rw [hgt] at hcmp
        have HNX := Lib.hid hnext
        have HKP := Lib.hid hkept
        have HRP := Lib.hid (rank_pos h0 (by omega))
        clear hnext hkept hkL hkR hBl h0 hlt hn64 hS0 hnF e8
        go_wp2
        go_region_held3 (fun wq => wq.cell? ⟨w.heap.size, 0, none⟩ = some (.pointer (some ⟨T, 0, none⟩)) ∧ wq.cell? ⟨w.heap.size + 1, 0, none⟩ = some (.int .u64 zo) ∧ wq.cell? ⟨w.heap.size + 1, 1, none⟩ = some (.int .u64 off)) (exact hcell HG) (first | (go_at_call 27; (with_reducible refine (hkey _ HG).mono ?_); rintro e w9 ⟨rfl, hg9⟩; replace HG := grown_trans HG hg9; obtain ⟨d0, d1, d2⟩ := hcell HG) | (go_at_call 49; (with_reducible refine (hcmp _).mono ?_); rintro e w9 ⟨rfl, hg9⟩; replace HG := grown_trans HG hg9; obtain ⟨d0, d1, d2⟩ := hcell HG))
        go_wp2_with (first | (go_at_call 25; (with_reducible refine (hlead _ HG).mono ?_); rintro e w6 ⟨rfl, l3, ⟨R3, ht3, hq3, hr3⟩, hl3⟩; have c6 := cell_of_one (hq3.heap ((HG.block _ (lt_of_block X1) (by simp)).trans X1) ((ht2.later HG).far ((HG.block _ (lt_of_block X1) (by simp)).trans X1) (by decide) (by decide))); have hld := txload_any ht3 n8 hn8; obtain ⟨y, hy⟩ : ∃ y, txSee ws l3 n8 = y := ⟨_, rfl⟩; rw [hy] at hld; have HY := Lib.hid hy; clear hy) | (go_at_call 24; (with_reducible refine hld.mono ?_); rintro e w7 ⟨rfl, hg7⟩))
        go_roundw
        case rel =>
          obtain ⟨⟨j, _, hj⟩, _⟩ : (∃ j, j < k0 ∧ SplitAt f (txSee ws l3) z F lst off left n8 (txSee ws l3 n8) j ∧ _) ∧ True := ⟨HNX.out l3 hl3, trivial⟩
          exact ⟨left, n8, y, l3, by go_num, by go_num, by go_num, ⟨j, HY.out ▸ hj.1⟩, Thought.trans hq2 hr2 (Thought.first HG (Thought.later ⟨R3, ht3, hq3, hr3⟩ hg7))⟩
        case measure =>
          obtain ⟨j, _, _, hj⟩ := HNX.out l3 hl3
          have := rank_son (HY.out ▸ hj) HRP.out
          simpa [intOf] using this
end
end Go.Proofs.YthhboidjibdahaaGreat
