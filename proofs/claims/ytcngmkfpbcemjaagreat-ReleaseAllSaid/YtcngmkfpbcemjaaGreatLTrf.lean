/-
  Texts of one layer, one behind the other: memory, contracts of the functions, and what follows of them.
  Conditions: as each theorem says.
-/
import Derived.Test.YtcngmkfpbcemjaaGreatLTrd
import Derived.Test.YtcngmkfpbcemjaaGreatLTre
import Derived.Test.YtcngmkfpbcemjaaGreatLTra
import Derived.Test.YtcngmkfpbcemjaaGreatLTxb
set_option linter.unusedVariables false
set_option linter.unusedSimpArgs false
namespace Go.Proofs.YtcngmkfpbcemjaaGreat
open Go.RowKit
def SplitE (f g z : Nat → Nat) (F l : List Nat) (off left right n : Nat) : Prop := ∃ k, SplitAt f g z F l off left right n k
def SplitD (f g z : Nat → Nat) (l : List Nat) (off : Nat) : Prop :=
  ∃ a b, l = a ++ b ∧ (∀ x, x ∈ a → blkLt z x off) ∧ (∀ x, x ∈ b → blkLt z off x) ∧ TreeOf g rkN (g (off + 8)) a ∧ TreeOf g rkN (g (off + 16)) b ∧ ∀ q, q ≠ off + 8 → q ≠ off + 16 → (∀ x, x ∈ l → q ≠ x + 8 ∧ q ≠ x + 16) → g q = f q
section
variable {w : World} {T M : Nat} {R : Option Nat} {B D : Nat} {ws : List Nat} {l l' : List (Nat × Nat)} {z : Nat → Nat} {F S lst : List Nat} {off lk n k v left right : Nat}
theorem SplitAt.kept {f g : Nat → Nat} (hU : Under z F lst off) (h : SplitAt f g z F lst off left right n k) : Kept F f g := by
  obtain ⟨a, m, b, PL, PR, _, _, _, _, _, _, _, _, hf⟩ := h
  exact fun q h1 h2 => hf q (h2 off hU.mem).1 (h2 off hU.mem).2 fun x hx => h2 x (hU.sub x hx).1
theorem SplitAt.linkOf {f g : Nat → Nat} (hU : Under z F lst off) (h : SplitAt f g z F lst off left right n k) : LinkOf F left ∧ LinkOf F right := by
  obtain ⟨h1, h2⟩ := h.links
  constructor
  · rcases h1 with e | ⟨x, hx, e⟩
    · exact .inr ⟨off, hU.mem, .inl e⟩
    · exact .inr ⟨x, (hU.sub x hx).1, e⟩
  · rcases h2 with e | ⟨x, hx, e⟩
    · exact .inr ⟨off, hU.mem, .inr e⟩
    · exact .inr ⟨x, (hU.sub x hx).1, e⟩
theorem rank_pos (h0 : n ≠ 0) (hn : n < 18446744073709551616) : 0 < rkN n := by
  rcases Nat.eq_zero_or_pos (rkN n) with e | e
  · exact absurd (rkN_inj hn (by omega) (e.trans rkN_zero.symm)) h0
  · exact e
theorem rank_son {y : Nat} (h : y = 0 ∨ rkN y < rkN n) (h0 : 0 < rkN n) : rkN y < rkN n := by
  rcases h with rfl | h
  · rw [rkN_zero]; exact h0
  · exact h
set_option maxHeartbeats 4000000 in
theorem tsplit_any (h : Thinks w T M R B D ws l) (hB : Bed ws l z F) (hU : Under z F lst off) (below : Nat) (ht : TreeOf (txSee ws l) rkN below lst) :
    Calls Tryz.prog 116 #[.agg #[.pointer (some ⟨T, 0, none⟩)], .int .u64 below, .agg #[.int .u64 (z off), .int .u64 off]] w fun e w' => e = .returned (.tuple #[]) ∧ ∃ l', Thought w T M R B D ws l' w' ∧ SplitD (txSee ws l) (txSee ws l') z lst off := by
  have ho64 := (hB.first hU.mem).2
  have hst := split_start hU ht
  have hsub := hU.sub
  obtain ⟨zo, hzo⟩ : ∃ q, z off = q := ⟨_, rfl⟩
  rw [hzo]
  have HZ := Lib.hid hzo
  obtain ⟨f, ef⟩ : ∃ f, txSee ws l = f := ⟨_, rfl⟩
  rw [ef] at hst ⊢
  have e8 : IntKind.u64.wrap ((off : Int) + 8) = (off + 8 : Nat) := by rw [IntKind.wrap_u64]; omega
  have e16 : IntKind.u64.wrap ((off : Int) + 16) = (off + 16 : Nat) := by rw [IntKind.wrap_u64]; omega
  obtain ⟨o8, eo8⟩ : ∃ q, off + 8 = q := ⟨_, rfl⟩
  obtain ⟨o16, eo16⟩ : ∃ q, off + 16 = q := ⟨_, rfl⟩
  rw [eo8] at e8
  rw [eo16] at e16
  have hg0 : w.grownBy ((w.alloc (.cells #[.pointer (some ⟨T, 0, none⟩)] 124)).alloc (.cells #[.int .u64 zo, .int .u64 off] 129)) none := grown_trans (World.grownBy_alloc _ _ _) (World.grownBy_alloc _ _ _)
  have ha : ((w.alloc (.cells #[.pointer (some ⟨T, 0, none⟩)] 124)).alloc (.cells #[.int .u64 zo, .int .u64 off] 129)).heap[w.heap.size]? = some (.cells #[.pointer (some ⟨T, 0, none⟩)] 124 (0, 0)) := (Below.heap_alloc _ _ _ (by simp)).trans (heap_alloc_new' w _)
  have hb : ((w.alloc (.cells #[.pointer (some ⟨T, 0, none⟩)] 124)).alloc (.cells #[.int .u64 zo, .int .u64 off] 129)).heap[w.heap.size + 1]? = some (.cells #[.int .u64 zo, .int .u64 off] 129 (0, 0)) := by
    have := heap_alloc_new' (w.alloc (.cells #[.pointer (some ⟨T, 0, none⟩)] 124)) (.cells #[.int .u64 zo, .int .u64 off] 129)
    rwa [World.size_alloc] at this
  obtain ⟨W, hW⟩ : ∃ W, (w.alloc (.cells #[.pointer (some ⟨T, 0, none⟩)] 124)).alloc (.cells #[.int .u64 zo, .int .u64 off] 129) = W := ⟨_, rfl⟩
  rw [hW] at ha hb hg0
  have hTW := h.later hg0
  obtain ⟨b0, b1⟩ := two_cells hb
  have hbox : ∀ {wr : World} {l2 : List (Nat × Nat)}, Thought W T M R B D ws l2 wr → wr.heap[w.heap.size]? = some (.cells #[.pointer (some ⟨T, 0, none⟩)] 124 (0, 0)) ∧ wr.heap[w.heap.size + 1]? = some (.cells #[.int .u64 zo, .int .u64 off] 129 (0, 0)) := fun {wr l2} ⟨R', k1, k2, k3⟩ =>
    ⟨k2.heap ha (hTW.far ha (by decide) (by decide)), k2.heap hb (hTW.far hb (by decide) (by decide))⟩
  have H8 := Lib.hid eo8
  have H16 := Lib.hid eo16
  have HB := Lib.hid hB
  have HU := Lib.hid hU
  have HS := Lib.hid (show SplitE f f z F lst off o8 o16 below from ⟨_, by rw [← eo8, ← eo16]; exact hst⟩)
  have HTW := Lib.hid (Thought.same hTW (grown_drew (grown_refl W none)))
  have HG0 := Lib.hid hg0
  have HEF := Lib.hid ef
  clear hst eo8 eo16 hB hU ha hb hTW ht h hzo hg0 ef
  go_enter Tryz.func116, Tryz.ntmps116
  go_wp2
  go_region
  all_goals go_wp2
  go_loopw [6, 7, 8] (fun p q j wr => ∃ left right n l2, p = .int .u64 (left : Nat) ∧ q = .int .u64 (right : Nat) ∧ j = .int .u64 (n : Nat) ∧ SplitE f (txSee ws l2) z F lst off left right n ∧ Thought W T M R B D ws l2 wr) (fun p q j _ => rkN (intOf j).toNat)
  case atStart => exact ⟨o8, o16, below, l, rfl, rfl, rfl, HEF.out ▸ HS.out, HTW.out⟩
  case round =>
    obtain ⟨left, right, n, l2, rfl, rfl, rfl, hS, hTh⟩ := hrel
    obtain ⟨X1, X2⟩ := hbox hTh
    obtain ⟨R2, ht2, hq2, hr2⟩ := hTh
    obtain ⟨k0, hS0⟩ := hS
    have hBl := HB.out.kept (l' := l2) (HEF.out.symm ▸ hS0.kept HU.out)
    obtain ⟨hkL, hkR⟩ := hS0.linkOf HU.out
    have c0 := cell_of_one X1
    by_cases h0 : n = 0
    · subst h0
      have hl1 : Calls Tryz.prog 115 #[.agg #[.pointer (some ⟨T, 0, none⟩)], .int .u64 left, .int .u64 0] wr _ := tlead_any ht2 left 0 (hBl.stand hkL).1 (hBl.stand hkL).2 (by omega)
      have hl2 : ∀ (w1 : World) (R3 : Option Nat) (l3 : List (Nat × Nat)), Thinks w1 T M R3 B D ws l3 → Calls Tryz.prog 115 #[.agg #[.pointer (some ⟨T, 0, none⟩)], .int .u64 right, .int .u64 0] w1 _ := fun w1 R3 l3 h3 => tlead_any h3 right 0 (hBl.stand hkR).1 (hBl.stand hkR).2 (by omega)
      clear hkL hkR hBl
      go_wp2_with (first | (go_at_call 115; (with_reducible refine hl1.mono ?_); rintro e w3 ⟨rfl, l3, ⟨R3, ht3, hq3, hr3⟩, hl3⟩; have c3 := cell_of_one (hq3.heap X1 (ht2.far X1 (by decide) (by decide)))) | (go_at_call 115; (with_reducible refine (hl2 _ _ _ ht3).mono ?_); rintro e w4 ⟨rfl, l4, ht4, hl4⟩))
      go_end0
      exact ⟨rfl, l4, Thought.first HG0.out (Thought.trans hq2 hr2 (Thought.trans hq3 hr3 ht4)), split_end HU.out hS0 hl3.off hl3.at_ hl4.off hl4.at_⟩
    · have h0' : ¬ (n : Int) = 0 := by omega
      have hnF := hsub n (hS0.mem h0)
      have hn64 := (HB.out.first hnF.1).2
      have hkey := fun (w1 : World) (hg : wr.grownBy w1 none) => tkey_any (ht2.later hg) n (by omega)
      rw [hBl.keys n hnF.1] at hkey
      have hcmp := fun w => tcompare_grown (z n) n zo off w
      have hcell : ∀ {wq : World}, wr.grownBy wq none → wq.cell? ⟨w.heap.size, 0, none⟩ = some (.pointer (some ⟨T, 0, none⟩)) ∧ wq.cell? ⟨w.heap.size + 1, 0, none⟩ = some (.int .u64 zo) ∧ wq.cell? ⟨w.heap.size + 1, 1, none⟩ = some (.int .u64 off) := fun {wq} hg => ⟨cell_of_one ((hg.block _ (lt_of_block X1) (by simp)).trans X1), two_cells (two_held X2 hg)⟩
      have HG : wr.grownBy wr.drew none := grown_drew (grown_refl _ _)
      obtain ⟨d0, d1, d2⟩ := hcell HG
      clear c0
      by_cases hlt : blkLt z n off
      · skip
        have hlead := fun (w1 : World) (hg : wr.grownBy w1 none) => tlead_any (ht2.later hg) left n (hBl.stand hkL).1 (hBl.stand hkL).2 (by omega)
        have hnext := fun (l3 : List (Nat × Nat)) (hl : Led ws l2 left n l3) => split_left HU.out hS0 h0 (hlt) hl.off hl.at_
        have hkept := fun (l3 : List (Nat × Nat)) (hl : Led ws l2 left n l3) => hBl.led hkL hl
        obtain ⟨n8, e8⟩ : ∃ q, n + 16 = q := ⟨_, rfl⟩
        have e9 : IntKind.u64.wrap ((n : Int) + 16) = (n8 : Nat) := by rw [IntKind.wrap_u64]; omega
        have hn8 : n8 < 18446744073709551616 := by omega
        rw [e8] at hnext
        rw [cmpK_lt (show ltK (z n) n zo off by rw [← HZ.out]; exact hlt)] at hcmp
        have HNX := Lib.hid hnext
        have HKP := Lib.hid hkept
        have HRP := Lib.hid (rank_pos h0 (by omega))
        clear hnext hkept hkL hkR hBl h0 hlt hn64 hS0 hnF e8
        go_wp2
        go_region_held3 (fun wq => wq.cell? ⟨w.heap.size, 0, none⟩ = some (.pointer (some ⟨T, 0, none⟩)) ∧ wq.cell? ⟨w.heap.size + 1, 0, none⟩ = some (.int .u64 zo) ∧ wq.cell? ⟨w.heap.size + 1, 1, none⟩ = some (.int .u64 off)) (exact hcell HG) (first | (go_at_call 107; (with_reducible refine (hkey _ HG).mono ?_); rintro e w9 ⟨rfl, hg9⟩; replace HG := grown_trans HG hg9; obtain ⟨d0, d1, d2⟩ := hcell HG) | (go_at_call 110; (with_reducible refine (hcmp _).mono ?_); rintro e w9 ⟨rfl, hg9⟩; replace HG := grown_trans HG hg9; obtain ⟨d0, d1, d2⟩ := hcell HG))
        go_wp2_with (first | (go_at_call 115; (with_reducible refine (hlead _ HG).mono ?_); rintro e w6 ⟨rfl, l3, ⟨R3, ht3, hq3, hr3⟩, hl3⟩; have c6 := cell_of_one (hq3.heap ((HG.block _ (lt_of_block X1) (by simp)).trans X1) ((ht2.later HG).far ((HG.block _ (lt_of_block X1) (by simp)).trans X1) (by decide) (by decide))); have hld := txload_any ht3 n8 hn8; obtain ⟨y, hy⟩ : ∃ y, txSee ws l3 n8 = y := ⟨_, rfl⟩; rw [hy] at hld; have HY := Lib.hid hy; clear hy) | (go_at_call 23; (with_reducible refine hld.mono ?_); rintro e w7 ⟨rfl, hg7⟩))
        go_roundw
        case rel =>
          obtain ⟨⟨j, _, hj⟩, _⟩ : (∃ j, j < k0 ∧ SplitAt f (txSee ws l3) z F lst off n8 right (txSee ws l3 n8) j ∧ _) ∧ True := ⟨HNX.out l3 hl3, trivial⟩
          exact ⟨n8, right, y, l3, by go_num, by go_num, by go_num, ⟨j, HY.out ▸ hj.1⟩, Thought.trans hq2 hr2 (Thought.first HG (Thought.later ⟨R3, ht3, hq3, hr3⟩ hg7))⟩
        case measure =>
          obtain ⟨j, _, _, hj⟩ := HNX.out l3 hl3
          have := rank_son (HY.out ▸ hj) HRP.out
          simpa [intOf] using this
      · have hgt : cmpK (z n) n zo off = 1 := by
          have hl2 := blkLt.total hlt hnF.2
          rw [← HZ.out]
          unfold blkLt keyLt at hl2
          unfold cmpK
          rcases hl2 with h1 | ⟨h1, h2⟩
          · rw [cmpN_gt h1]; simp
          · rw [h1, cmpN_eq, if_pos rfl, cmpN_gt h2]
        have hlead := fun (w1 : World) (hg : wr.grownBy w1 none) => tlead_any (ht2.later hg) right n (hBl.stand hkR).1 (hBl.stand hkR).2 (by omega)
        have hnext := fun (l3 : List (Nat × Nat)) (hl : Led ws l2 right n l3) => split_right HU.out hS0 h0 (blkLt.total hlt hnF.2) hl.off hl.at_
        have hkept := fun (l3 : List (Nat × Nat)) (hl : Led ws l2 right n l3) => hBl.led hkR hl
        obtain ⟨n8, e8⟩ : ∃ q, n + 8 = q := ⟨_, rfl⟩
        have e9 : IntKind.u64.wrap ((n : Int) + 8) = (n8 : Nat) := by rw [IntKind.wrap_u64]; omega
        have hn8 : n8 < 18446744073709551616 := by omega
        rw [e8] at hnext
        rw [hgt] at hcmp
        have HNX := Lib.hid hnext
        have HKP := Lib.hid hkept
        have HRP := Lib.hid (rank_pos h0 (by omega))
        clear hnext hkept hkL hkR hBl h0 hlt hn64 hS0 hnF e8
        go_wp2
        go_region_held3 (fun wq => wq.cell? ⟨w.heap.size, 0, none⟩ = some (.pointer (some ⟨T, 0, none⟩)) ∧ wq.cell? ⟨w.heap.size + 1, 0, none⟩ = some (.int .u64 zo) ∧ wq.cell? ⟨w.heap.size + 1, 1, none⟩ = some (.int .u64 off)) (exact hcell HG) (first | (go_at_call 107; (with_reducible refine (hkey _ HG).mono ?_); rintro e w9 ⟨rfl, hg9⟩; replace HG := grown_trans HG hg9; obtain ⟨d0, d1, d2⟩ := hcell HG) | (go_at_call 110; (with_reducible refine (hcmp _).mono ?_); rintro e w9 ⟨rfl, hg9⟩; replace HG := grown_trans HG hg9; obtain ⟨d0, d1, d2⟩ := hcell HG))
        go_wp2_with (first | (go_at_call 115; (with_reducible refine (hlead _ HG).mono ?_); rintro e w6 ⟨rfl, l3, ⟨R3, ht3, hq3, hr3⟩, hl3⟩; have c6 := cell_of_one (hq3.heap ((HG.block _ (lt_of_block X1) (by simp)).trans X1) ((ht2.later HG).far ((HG.block _ (lt_of_block X1) (by simp)).trans X1) (by decide) (by decide))); have hld := txload_any ht3 n8 hn8; obtain ⟨y, hy⟩ : ∃ y, txSee ws l3 n8 = y := ⟨_, rfl⟩; rw [hy] at hld; have HY := Lib.hid hy; clear hy) | (go_at_call 23; (with_reducible refine hld.mono ?_); rintro e w7 ⟨rfl, hg7⟩))
        go_roundw
        case rel =>
          obtain ⟨⟨j, _, hj⟩, _⟩ : (∃ j, j < k0 ∧ SplitAt f (txSee ws l3) z F lst off left n8 (txSee ws l3 n8) j ∧ _) ∧ True := ⟨HNX.out l3 hl3, trivial⟩
          exact ⟨left, n8, y, l3, by go_num, by go_num, by go_num, ⟨j, HY.out ▸ hj.1⟩, Thought.trans hq2 hr2 (Thought.first HG (Thought.later ⟨R3, ht3, hq3, hr3⟩ hg7))⟩
        case measure =>
          obtain ⟨j, _, _, hj⟩ := HNX.out l3 hl3
          have := rank_son (HY.out ▸ hj) HRP.out
          simpa [intOf] using this
end
end Go.Proofs.YtcngmkfpbcemjaaGreat
namespace Go.Proofs.YtcngmkfpbcemjaaGreat
open Go.RowKit
set_option maxRecDepth 100000
theorem info_node : (Tryz.prog.info? 131).map (fun i => (i.zero, i.size, i.bytes)) = some (some (.agg #[.int .u64 0, .int .u64 0, .int .u64 0, .int .u64 0]), 4, 32) := by kernel_rfl
theorem info_nptr : (Tryz.prog.info? 176).map (fun i => (i.zero, i.size, i.bytes)) = some (some (.pointer none), 1, 8) := by kernel_rfl
theorem made_nodes (n : Nat) : madeCells (#[.int .u64 0, .int .u64 0, .int .u64 0, .int .u64 0] : Array Value) (n * 4) = (cellsN (List.replicate n default)).toArray := by
  apply Array.ext
  · simp [size_madeCells, cellsN_len]
  · intro i h1 h2
    rw [size_madeCells] at h1
    have h4 := cellsN_at (List.replicate n default) (i / 4) (i % 4) (by simp; omega) (by omega)
    rw [show i / 4 * 4 + i % 4 = i by omega] at h4
    have h5 : (List.replicate n (default : Nd)).getD (i / 4) default = default := by
      rw [List.getD_eq_getElem?_getD, List.getElem?_replicate]
      split <;> rfl
    rw [h5] at h4
    have h6 : i < (cellsN (List.replicate n default)).length := by simpa using h2
    rw [List.getElem?_eq_getElem h6] at h4
    simp only [List.getElem_toArray, madeCells, Array.getElem_map, Array.getElem_range]
    have hi4 : i % 4 = 0 ∨ i % 4 = 1 ∨ i % 4 = 2 ∨ i % 4 = 3 := by omega
    show (#[.int .u64 0, .int .u64 0, .int .u64 0, .int .u64 0] : Array Value)[i % 4]! = _
    rcases hi4 with e | e | e | e <;> rw [e] at h4 ⊢ <;> exact (Option.some.inj h4).symm
theorem make_nodes (n : Nat) (hn : n ≤ 1000000) (w : World) :
    (Instr.makeSlice 125 (.int .i64 n) (.int .i64 n)).run Tryz.prog w = .ok (.slice (some ⟨w.heap.size, 0, none⟩) n n) (w.alloc (.cells (cellsN (List.replicate n default)).toArray 131)) := by
  obtain ⟨i, hi, hz, hs, hb⟩ := info_parts info_node
  have h := run_make (P := Tryz.prog) w 125 131 i _ Tryz.underlying125 hi hz .i64 .i64 n n (by omega) (Int.le_refl _) (by rw [hb]; omega) (by omega)
  rw [h, hs]
  simp only [Int.toNat_natCast]
  rw [show (Value.agg #[.int .u64 0, .int .u64 0, .int .u64 0, .int .u64 0]).cells = #[.int .u64 0, .int .u64 0, .int .u64 0, .int .u64 0] from rfl, made_nodes]
def ndS (z : Nat → Nat) (L : List Nat) : Nat → List Nd
  | 0 => List.replicate L.length default
  | i + 1 => (ndS z L i).set i { (ndS z L i).getD i default with s := z (L.getD i 0), o := L.getD i 0 }
theorem ndS_len (z : Nat → Nat) (L : List Nat) : ∀ i, (ndS z L i).length = L.length
  | 0 => by simp [ndS]
  | i + 1 => by simp [ndS, ndS_len z L i]
theorem ndS_get (z : Nat → Nat) (L : List Nat) : ∀ i j, i ≤ L.length → j < L.length → (ndS z L i).getD j default = if j < i then ⟨z (L.getD j 0), L.getD j 0, 0, 0⟩ else default
  | 0, j, _, hj => by
    rw [if_neg (by omega)]
    unfold ndS
    rw [List.getD_eq_getElem?_getD, List.getElem?_replicate]
    split <;> rfl
  | i + 1, j, hi, hj => by
    unfold ndS
    rw [List.getD_eq_getElem?_getD, List.getElem?_set]
    by_cases e : i = j
    · subst e
      rw [if_pos rfl, if_pos (by rw [ndS_len]; omega), if_pos (by omega), ndS_get z L i i (by omega) hj, if_neg (by omega)]
      rfl
    · rw [if_neg e, ← List.getD_eq_getElem?_getD, ndS_get z L i j (by omega) hj]
      by_cases e2 : j < i
      · rw [if_pos e2, if_pos (by omega)]
      · rw [if_neg e2, if_neg (by omega)]
theorem ndS_all (z : Nat → Nat) (L : List Nat) : ndS z L L.length = L.map fun x => ⟨z x, x, 0, 0⟩ := by
  apply List.ext_getElem
  · simp [ndS_len]
  · intro i h1 h2
    rw [ndS_len] at h1
    have := ndS_get z L L.length i (Nat.le_refl _) h1
    rw [if_pos h1, List.getD_eq_getElem?_getD, List.getElem?_eq_getElem (by rw [ndS_len]; exact h1)] at this
    simp only [Option.getD_some] at this
    rw [this, List.getElem_map]
    rw [List.getD_eq_getElem?_getD, List.getElem?_eq_getElem h1]
    rfl
def ptrs (ab g : Nat) (es : List Nat) : List Value := .pointer (some ⟨ab, 0, none⟩) :: es.map fun i => .pointer (some ⟨g, i * 4, none⟩)
theorem ptrs_len (ab g : Nat) (es : List Nat) : (ptrs ab g es).length = es.length + 1 := by simp [ptrs]
theorem ptrs_take (ab g : Nat) (es : List Nat) (k : Nat) : (ptrs ab g es).take (k + 1) = ptrs ab g (es.take k) := by simp [ptrs, List.map_take]
theorem ptrs_snoc (ab g : Nat) (es : List Nat) (i : Nat) : ptrs ab g es ++ [.pointer (some ⟨g, i * 4, none⟩)] = ptrs ab g (es ++ [i]) := by simp [ptrs]
def OwnE (w : World) (base : Nat) (v : Value) (ab g : Nat) (es : List Nat) : Prop := w.ownsRow base 176 1 v (es.length + 1) (ptrs ab g es)
section
variable {w w' : World} {base ab g : Nat} {v : Value} {es : List Nat}
theorem OwnE.form (h : OwnE w base v ab g es) : ∃ eb cap cur, v = .slice (some ⟨eb, 0, none⟩) (es.length + 1) cap ∧ base ≤ eb ∧ es.length + 1 ≤ cap ∧ w.heap[eb]? = some (.cells cur 176 (0, 0)) ∧ w.cell? ⟨eb, 0, none⟩ = some (.pointer (some ⟨ab, 0, none⟩)) ∧ ∀ j, j < es.length → w.cell? ⟨eb, j + 1, none⟩ = some (.pointer (some ⟨g, es.getD j 0 * 4, none⟩)) := by
  obtain ⟨h1, h2 | ⟨eb, cap, cur, rfl, hb, hh, hn, hc, hs, ht⟩⟩ := h
  · have := h2.2; omega
  · have hcell : ∀ j, j < es.length + 1 → w.cell? ⟨eb, j, none⟩ = (ptrs ab g es)[j]? := fun j hj => by
      unfold World.cell?
      rw [hh]
      simp only [Option.isSome_none, Bool.false_eq_true, if_false]
      rw [← ht, List.getElem?_take, if_pos (by omega)]
      simp
    refine ⟨eb, cap, cur, rfl, hb, hn, hh, hcell 0 (by omega), fun j hj => ?_⟩
    rw [hcell (j + 1) (by omega)]
    show (es.map fun i => Value.pointer (some ⟨g, i * 4, none⟩))[j]? = _
    rw [List.getElem?_map, List.getD_eq_getElem?_getD, List.getElem?_eq_getElem hj]
    rfl
theorem OwnE.take {a : Option Addr} {m cap : Nat} (h : OwnE w base (.slice a m cap) ab g es) (k : Nat) (hk : k ≤ es.length) : OwnE w base (.slice a (k + 1) cap) ab g (es.take k) := by
  obtain ⟨h1, h2 | ⟨eb, cap', cur, hv, hb, hh, hn, hc, hs, ht⟩⟩ := h
  · have := h2.2; omega
  · injection hv with e1 e2 e3
    subst e1 e3
    have hlen : (es.take k).length = k := by simp; omega
    unfold OwnE
    rw [hlen]
    refine ⟨by rw [ptrs_len, hlen]; omega, .inr ⟨eb, cap, cur, rfl, hb, hh, by omega, hc, hs, ?_⟩⟩
    rw [← ptrs_take, ← ht, List.take_take]
    congr 1
    omega
end
theorem wpList_append_nptr {w2 : World} {ops : Array Oper} {rest : List Oper} {o : Oper} {a : Act} {Q : Exit → Act → World → Prop} (hgd : o.guard = none) (s x : Operand)
    (ho : o.op = .call { callee := .builtin .append, args := #[s, x], argTypes := #[177, 177] })
    (base : Nat) (v : Value) (n : Nat) (xs : List Value) (hs : a.eval s = v) (hown : w2.ownsRow base 176 1 v n xs) (y : Option Addr)
    (hx : a.eval x = .slice (some ⟨w2.heap.size, 0, none⟩) 1 1) (hn : n ≤ 1000000000) (hbase : base ≤ w2.heap.size)
    (h : ∀ v' w', w'.ownsRow base 176 1 v' (n + 1) (xs ++ [.pointer y]) → (w2.alloc (.cells #[.pointer y] 176)).grownBy w' v.ownBlock → (v'.ownBlock = v.ownBlock ∨ v'.ownBlock = some (w2.heap.size + 1)) → wpList Tryz.prog ops Q rest (a.put o.dst v') w') :
    wpList Tryz.prog ops Q (o :: rest) a (w2.alloc (.cells #[.pointer y] 176)) := by
  obtain ⟨i0, hi, hz0, hz1, hz2⟩ := info_parts info_nptr
  refine wpList_append_own_at _ hgd s x 177 ho base 176 i0 (.pointer none) 1 8 Tryz.underlying177 hi hz0 hz1 hz2 rfl (by decide) v n xs hs (hown.alloc _) ⟨w2.heap.size, 0, none⟩ 1 1 [.pointer y] hx rfl ?_ ?_ ?_ ?_ ?_ fun v' w' h1 h2 _ h4 => h v' w' h1 h2 (by rw [World.size_alloc] at h4; exact h4)
  · intro j u hj
    rcases j with _ | j
    · simp at hj
      subst hj
      exact World.cell?_alloc_at _ _ _ _ rfl
    · simp at hj
  · intro u hu
    simp at hu
    subst hu
    rfl
  · unfold maxLen; omega
  · omega
  · rw [World.size_alloc]; omega
end Go.Proofs.YtcngmkfpbcemjaaGreat
namespace Go.Proofs.YtcngmkfpbcemjaaGreat
open Go.RowKit
set_option maxRecDepth 100000
def JoinE (g z : Nat → Nat) (F U : List Nat) (lk left right : Nat) : Prop := ∃ k, JoinAt g z F U lk left right k
section
variable {w : World} {T M : Nat} {R : Option Nat} {B D : Nat} {ws : List Nat} {l l' : List (Nat × Nat)} {z : Nat → Nat} {F S U lst : List Nat} {off lk n k v left right : Nat}
theorem JoinE.lt {g : Nat → Nat} (hU : Lot F U) (h : JoinE g z F U lk left right) : LinkOf F lk ∧ left < 18446744073709551600 ∧ right < 18446744073709551600 ∧ (left ≠ 0 → rkN left ≠ rkN right) ∧ (left ≠ 0 → left ∈ F) ∧ (right ≠ 0 → right ∈ F) := by
  obtain ⟨k, h⟩ := h
  obtain ⟨h1, h2, h3⟩ := h.mem
  have hF : ∀ {x}, x ∈ U → x < 18446744073709551600 := fun {x} hx => by have := hU.free.on x (hU.sub x hx); omega
  have hl : left < 18446744073709551600 := by
    by_cases e : left = 0
    · omega
    · exact hF (h1 e)
  have hr : right < 18446744073709551600 := by
    by_cases e : right = 0
    · omega
    · exact hF (h2 e)
  exact ⟨h.link, hl, hr, fun e e2 => h3 e hU.nodup (rkN_inj (by omega) (by omega) e2), fun e => hU.sub _ (h1 e), fun e => hU.sub _ (h2 e)⟩
set_option maxHeartbeats 4000000 in
theorem tjoin_any (h : Thinks w T M R B D ws l) (hB : Bed ws l z F) (hU : Lot F U) (hJ : JoinE (txSee ws l) z F U lk left right) :
    Calls Tryz.prog 83 #[.agg #[.pointer (some ⟨T, 0, none⟩)], .int .u64 lk, .int .u64 left, .int .u64 right] w fun e w' => e = .returned (.tuple #[]) ∧ ∃ l', Thought w T M R B D ws l' w' ∧ TreeOf (txSee ws l') rkN (txSee ws l' 32) U ∧ Kept F (txSee ws l) (txSee ws l') := by
  obtain ⟨f, ef⟩ : ∃ f, txSee ws l = f := ⟨_, rfl⟩
  rw [ef] at hJ ⊢
  have hmix := fun x w => mix_rk x w
  have hg0 : w.grownBy (w.alloc (.cells #[.pointer (some ⟨T, 0, none⟩)] 124)) none := World.grownBy_alloc _ _ _
  have ha : (w.alloc (.cells #[.pointer (some ⟨T, 0, none⟩)] 124)).heap[w.heap.size]? = some (.cells #[.pointer (some ⟨T, 0, none⟩)] 124 (0, 0)) := heap_alloc_new' _ _
  obtain ⟨W, hW⟩ : ∃ W, w.alloc (.cells #[.pointer (some ⟨T, 0, none⟩)] 124) = W := ⟨_, rfl⟩
  rw [hW] at ha hg0
  have hTW := h.later hg0
  have hbox : ∀ {wr : World} {l2 : List (Nat × Nat)}, Thought W T M R B D ws l2 wr → wr.heap[w.heap.size]? = some (.cells #[.pointer (some ⟨T, 0, none⟩)] 124 (0, 0)) := fun {wr l2} ⟨R', k1, k2, k3⟩ => k2.heap ha (hTW.far ha (by decide) (by decide))
  have HB := Lib.hid hB
  have HU := Lib.hid hU
  have HJ := Lib.hid hJ
  have HTW := Lib.hid (Thought.same hTW (grown_refl W none))
  have HG0 := Lib.hid hg0
  have HEF := Lib.hid ef
  clear hB hU ha hTW h hg0 ef hJ
  go_enter Tryz.func83, Tryz.ntmps83
  go_wp2
  go_loopw [1, 2, 3] (fun p q j wr => ∃ lk left right l2, p = .int .u64 (lk : Nat) ∧ q = .int .u64 (left : Nat) ∧ j = .int .u64 (right : Nat) ∧ JoinE (txSee ws l2) z F U lk left right ∧ Kept F f (txSee ws l2) ∧ Thought W T M R B D ws l2 wr) (fun p q j _ => rkN (intOf q).toNat + rkN (intOf j).toNat)
  case atStart => exact ⟨lk, left, right, l, rfl, rfl, rfl, HEF.out ▸ HJ.out, by rw [HEF.out]; exact Kept.refl, HTW.out⟩
  case round =>
    obtain ⟨lk, left, right, l2, rfl, rfl, rfl, hS, hK, hTh⟩ := hrel
    have X1 := hbox hTh
    obtain ⟨R2, ht2, hq2, hr2⟩ := hTh
    have hBl := HB.out.kept (l' := l2) (HEF.out.symm ▸ hK)
    obtain ⟨hk, hl64, hr64, hne, hlF, hrF⟩ := hS.lt HU.out
    have HK := Lib.hid hK
    have HS := Lib.hid hS
    have c0 := cell_of_one X1
    clear hS hK HJ
    by_cases h0 : left = 0 ∨ right = 0
    · have hfin : ∀ m : Nat, m < 18446744073709551616 → Calls Tryz.prog 115 #[.agg #[.pointer (some ⟨T, 0, none⟩)], .int .u64 lk, .int .u64 m] wr _ := fun m hm => tlead_any ht2 lk m (hBl.stand hk).1 (hBl.stand hk).2 hm
      have HKP := Lib.hid (fun (l3 : List (Nat × Nat)) (hl : Led ws l2 lk (max left right) l3) => (show TreeOf (txSee ws l3) rkN (txSee ws l3 32) U ∧ Kept F f (txSee ws l3) by
        obtain ⟨k, hk0⟩ := HS.out
        exact ⟨join_end HU.out hk0 h0 hl.off hl.at_, HK.out.trans (Kept.put hk hl.off)⟩))
      clear hne hlF hrF
      by_cases hl0 : left = 0
      · subst hl0
        rw [Nat.zero_max] at HKP
        by_cases hr0 : right = 0
        · subst hr0
          have hf1 : Calls Tryz.prog 115 #[.agg #[.pointer (some ⟨T, 0, none⟩)], .int .u64 lk, .int .u64 0] wr _ := hfin 0 (by omega)
          clear hfin h0 hk hBl
          go_wp2_with (first | (go_at_call 115; (with_reducible refine hf1.mono ?_); rintro e w3 ⟨rfl, l3, ht3, hl3⟩))
          go_end0
          obtain ⟨q1, q2⟩ := HKP.out l3 hl3
          exact ⟨rfl, l3, Thought.first HG0.out (Thought.trans hq2 hr2 ht3), q1, q2⟩
        · have hf1 := hfin right (by omega)
          have hr0' : ¬ (right : Int) = 0 := by omega
          have hr0'' : (0 : Int) < (right : Int) := by omega
          clear hfin h0 hk hBl hr0
          go_wp2_with (first | (go_at_call 115; (with_reducible refine hf1.mono ?_); rintro e w3 ⟨rfl, l3, ht3, hl3⟩))
          go_end0
          obtain ⟨q1, q2⟩ := HKP.out l3 hl3
          exact ⟨rfl, l3, Thought.first HG0.out (Thought.trans hq2 hr2 ht3), q1, q2⟩
      · obtain rfl : right = 0 := by omega
        rw [Nat.max_zero] at HKP
        have hf1 := hfin left (by omega)
        have hl0' : ¬ (left : Int) = 0 := by omega
        have hr0'' : (0 : Int) < (left : Int) := by omega
        clear hfin h0 hk hBl hl0
        go_wp2_with (first | (go_at_call 115; (with_reducible refine hf1.mono ?_); rintro e w3 ⟨rfl, l3, ht3, hl3⟩))
        go_end0
        obtain ⟨q1, q2⟩ := HKP.out l3 hl3
        exact ⟨rfl, l3, Thought.first HG0.out (Thought.trans hq2 hr2 ht3), q1, q2⟩
    · have hl0 : left ≠ 0 := by omega
      have hr0 : right ≠ 0 := by omega
      have hl0' : ¬ (left : Int) = 0 := by omega
      have hr0' : ¬ (right : Int) = 0 := by omega
      have hne2 := hne hl0
      have hb1 : ((left : Int) != 0) = true := by simpa using hl0
      have hb2 : ((right : Int) != 0) = true := by simpa using hr0
      by_cases hr : rkN right < rkN left
      · have hr' : ((rkN right : Nat) : Int) < (rkN left : Nat) := by omega
        have hlead := tlead_any ht2 lk left (hBl.stand hk).1 (hBl.stand hk).2 (by omega)
        have HNX := Lib.hid (fun (l3 : List (Nat × Nat)) (hl : Led ws l2 lk left l3) => (show _ from (HS.out.elim fun k hk0 => join_left HU.out hk0 hl0 (by omega) hl.off hl.at_)))
        have HKP := Lib.hid (fun (l3 : List (Nat × Nat)) (hl : Led ws l2 lk left l3) => HK.out.trans (Kept.put hk hl.off))
        obtain ⟨n8, e8⟩ : ∃ q, left + 16 = q := ⟨_, rfl⟩
        have e9 : IntKind.u64.wrap ((left : Int) + 16) = (n8 : Nat) := by rw [IntKind.wrap_u64]; omega
        have hn8 : n8 < 18446744073709551616 := by omega
        rw [e8] at HNX
        have HRP := Lib.hid (rank_pos hl0 (by omega))
        clear hk hBl hl0 hr0 e8 hr hne hlF hrF h0 hl64 hr64 hne2
        go_wp2_with (first | (go_at_call 111; (with_reducible refine (hmix _ _).mono ?_); rintro e w3 ⟨rfl, rfl⟩) | (go_at_call 115; (with_reducible refine hlead.mono ?_); rintro e w6 ⟨rfl, l3, ⟨R3, ht3, hq3, hr3⟩, hl3⟩; have c6 := cell_of_one (hq3.heap X1 (ht2.far X1 (by decide) (by decide))); have hld := txload_any ht3 n8 hn8; obtain ⟨y, hy⟩ : ∃ y, txSee ws l3 n8 = y := ⟨_, rfl⟩; rw [hy] at hld; have HY := Lib.hid hy; clear hy) | (go_at_call 23; (with_reducible refine hld.mono ?_); rintro e w7 ⟨rfl, hg7⟩))
        go_roundw
        case rel => exact ⟨n8, y, right, l3, by go_num, by go_num, by go_num, HY.out ▸ (HNX.out l3 hl3).1, HKP.out l3 hl3, Thought.trans hq2 hr2 (Thought.later ⟨R3, ht3, hq3, hr3⟩ hg7)⟩
        case measure =>
          have := rank_son (HY.out ▸ (HNX.out l3 hl3).2) HRP.out
          simp only [intOf, Int.toNat_natCast]
          omega
      · have hr' : ¬ ((rkN right : Nat) : Int) < (rkN left : Nat) := by omega
        have hlead := tlead_any ht2 lk right (hBl.stand hk).1 (hBl.stand hk).2 (by omega)
        have HNX := Lib.hid (fun (l3 : List (Nat × Nat)) (hl : Led ws l2 lk right l3) => (show _ from (HS.out.elim fun k hk0 => join_right HU.out hk0 hr0 (by omega) hl.off hl.at_)))
        have HKP := Lib.hid (fun (l3 : List (Nat × Nat)) (hl : Led ws l2 lk right l3) => HK.out.trans (Kept.put hk hl.off))
        obtain ⟨n8, e8⟩ : ∃ q, right + 8 = q := ⟨_, rfl⟩
        have e9 : IntKind.u64.wrap ((right : Int) + 8) = (n8 : Nat) := by rw [IntKind.wrap_u64]; omega
        have hn8 : n8 < 18446744073709551616 := by omega
        rw [e8] at HNX
        have HRP := Lib.hid (rank_pos hr0 (by omega))
        clear hk hBl hl0 hr0 e8 hr hne hlF hrF h0 hl64 hr64 hne2
        go_wp2_with (first | (go_at_call 111; (with_reducible refine (hmix _ _).mono ?_); rintro e w3 ⟨rfl, rfl⟩) | (go_at_call 115; (with_reducible refine hlead.mono ?_); rintro e w6 ⟨rfl, l3, ⟨R3, ht3, hq3, hr3⟩, hl3⟩; have c6 := cell_of_one (hq3.heap X1 (ht2.far X1 (by decide) (by decide))); have hld := txload_any ht3 n8 hn8; obtain ⟨y, hy⟩ : ∃ y, txSee ws l3 n8 = y := ⟨_, rfl⟩; rw [hy] at hld; have HY := Lib.hid hy; clear hy) | (go_at_call 23; (with_reducible refine hld.mono ?_); rintro e w7 ⟨rfl, hg7⟩))
        go_roundw
        case rel => exact ⟨n8, left, y, l3, by go_num, by go_num, by go_num, HY.out ▸ (HNX.out l3 hl3).1, HKP.out l3 hl3, Thought.trans hq2 hr2 (Thought.later ⟨R3, ht3, hq3, hr3⟩ hg7)⟩
        case measure =>
          have := rank_son (HY.out ▸ (HNX.out l3 hl3).2) HRP.out
          simp only [intOf, Int.toNat_natCast]
          omega
end
end Go.Proofs.YtcngmkfpbcemjaaGreat
