/-
  Texts of one layer, one behind the other: memory, contracts of the functions, and what follows of them.
  Conditions: as each theorem says.
-/
import Derived.Test.YtcngmkfpbcemjaaGreatLCan
import Derived.Test.YtcngmkfpbcemjaaGreatLCae
import Derived.Test.YtcngmkfpbcemjaaGreatLTrk
import Derived.Laws.StructEq
import Derived.Deep.RegionHeld3
import Derived.BigQuiet
import Derived.Test.YtcngmkfpbcemjaaGreatRelH
import Derived.Test.YtcngmkfpbcemjaaGreatRelM
import Derived.Test.YtcngmkfpbcemjaaGreatLTab
import Derived.Test.YtcngmkfpbcemjaaGreatLPha
import Derived.Test.YtcngmkfpbcemjaaGreatLPhd
set_option linter.unusedVariables false
set_option linter.unusedSimpArgs false
namespace Go.Proofs.YtcngmkfpbcemjaaGreat
open Go.RowKit
set_option maxRecDepth 100000
set_option maxHeartbeats 1000000 in
theorem made11_any (b : Blk) (w : World) :
    Calls Tryz.prog 29 #[.agg #[.int .u64 (b.off : Nat), .int .u64 (b.s : Nat), .bool b.u, .int .i64 b.o, .int .u64 (b.n : Nat)]] w fun e w' => e = .returned (.agg #[.int .u64 (b.off : Nat), .int .u64 (b.s : Nat), .bool b.u, .int .i64 b.o, .int .u64 (b.n : Nat)]) ∧ w.grownBy w' none := by
  obtain ⟨x0, x1, x2, x3, x4⟩ := b
  simp only
  go_enter Tryz.func29, Tryz.ntmps29
  go_wp2
  have hb := heap_alloc_new' (w.alloc (.cells #[.int .u64 (x0 : Nat), .int .u64 (x1 : Nat), .bool x2, .int .i64 x3, .int .u64 (x4 : Nat)] 79)) (.cells #[.int .u64 (x0 : Nat), .int .u64 (x1 : Nat), .bool x2, .int .i64 x3, .int .u64 (x4 : Nat)] 56)
  rw [World.size_alloc] at hb
  refine bodyPost_ret (results_cell_row (by kernel_rfl : Tryz.f29.results = #[.cell 2 56]) _ _ (w.heap.size + 1) 56 _ (0, 0) _ rfl hb Tryz.underlying56 rfl (by kernel_rfl)) rfl ?_
  exact ⟨rfl, grown_trans (World.grownBy_alloc _ _ _) (World.grownBy_alloc _ _ _)⟩
section
variable {w0 w : World} {T : Nat} {R : Option Nat} {ws : List Nat} {E base : Nat} {bs : List Blk} {L : Nat → List Nat} {v : Value}
set_option maxHeartbeats 8000000 in
theorem sound11_any (h : HW w0 w T R ws E bs L) (hv : HvIs w base v E bs L) :
    Calls Tryz.prog 11 #[.pointer (some ⟨T, 0, none⟩), v] w fun e w' => e = .returned (.bool true) ∧ w.grownBy w' none := by
  obtain ⟨b, vs, rfl, hb, hl⟩ := hv.is
  obtain ⟨va, ln, vc, hve, hl', hln⟩ := heap_lie (E := E) (b := b) hl
  rw [hve]
  clear hve hl
  have hfr := fun (V : World) (hg : w.grownBy V none) => rfrees_any (v := heapV E b fun c => .slice (va c) (ln c) (vc c)) (⟨⟨b, _, rfl, hb.later hg, fun c hc => (hl' c hc).later hg⟩⟩ : HvIs V base _ E bs L) (hw_few h)
  obtain ⟨la, cap, hbe, hat⟩ := hb.at_
  subst hbe
  obtain ⟨n, hn⟩ : ∃ n, bs.length = n := ⟨_, rfl⟩
  rw [hn] at hfr ⊢
  have hfew := hw_few h
  rw [hn] at hfew
  have hwk := fun (V : World) (hg : w.grownBy V none) => hw_walk (h.later hg)
  have hsz := fun (V : World) (hg : w.grownBy V none) => hw_size (h.later hg)
  have hli := fun (V : World) (c : Nat) (hg : w.grownBy V none) (hc : c < 8) => hw_list (la := va c) (m := ln c) (k := vc c) (h.later hg) hc ((lie_at (hl' c hc)).later hg) (hln c)
  have htr := fun (V : World) (la : Option Addr) (m k : Nat) (hg : w.grownBy V none) (hw : WordsAt V la (freesB bs)) (hm : (freesB bs).length = m) => hw_tree (k := k) (h.later hg) hw hm
  simp only [heapV] at hfr ⊢
  have hg0 := World.grownBy_alloc w (.cells #[.int .u64 E, .slice la n cap, .slice (va 0) (ln 0) (vc 0), .slice (va 1) (ln 1) (vc 1), .slice (va 2) (ln 2) (vc 2), .slice (va 3) (ln 3) (vc 3), .slice (va 4) (ln 4) (vc 4), .slice (va 5) (ln 5) (vc 5), .slice (va 6) (ln 6) (vc 6), .slice (va 7) (ln 7) (vc 7)] 30) none
  have hbx0 := heap_alloc_new' w (.cells #[.int .u64 E, .slice la n cap, .slice (va 0) (ln 0) (vc 0), .slice (va 1) (ln 1) (vc 1), .slice (va 2) (ln 2) (vc 2), .slice (va 3) (ln 3) (vc 3), .slice (va 4) (ln 4) (vc 4), .slice (va 5) (ln 5) (vc 5), .slice (va 6) (ln 6) (vc 6), .slice (va 7) (ln 7) (vc 7)] 30)
  obtain ⟨hb0, ehb⟩ : ∃ hb0, w.heap.size = hb0 := ⟨_, rfl⟩
  have hbx : ∀ V : World, (w.alloc (.cells #[.int .u64 E, .slice la n cap, .slice (va 0) (ln 0) (vc 0), .slice (va 1) (ln 1) (vc 1), .slice (va 2) (ln 2) (vc 2), .slice (va 3) (ln 3) (vc 3), .slice (va 4) (ln 4) (vc 4), .slice (va 5) (ln 5) (vc 5), .slice (va 6) (ln 6) (vc 6), .slice (va 7) (ln 7) (vc 7)] 30)).grownBy V none → V.heap[hb0]? = some (.cells #[.int .u64 E, .slice la n cap, .slice (va 0) (ln 0) (vc 0), .slice (va 1) (ln 1) (vc 1), .slice (va 2) (ln 2) (vc 2), .slice (va 3) (ln 3) (vc 3), .slice (va 4) (ln 4) (vc 4), .slice (va 5) (ln 5) (vc 5), .slice (va 6) (ln 6) (vc 6), .slice (va 7) (ln 7) (vc 7)] 30 (0, 0)) := fun V hg => by
    rw [← ehb]
    exact (hg.block _ (lt_of_block hbx0) (by simp)).trans hbx0
  obtain ⟨W1, hW1⟩ : ∃ W1, w.alloc (.cells #[.int .u64 E, .slice la n cap, .slice (va 0) (ln 0) (vc 0), .slice (va 1) (ln 1) (vc 1), .slice (va 2) (ln 2) (vc 2), .slice (va 3) (ln 3) (vc 3), .slice (va 4) (ln 4) (vc 4), .slice (va 5) (ln 5) (vc 5), .slice (va 6) (ln 6) (vc 6), .slice (va 7) (ln 7) (vc 7)] 30) = W1 := ⟨_, rfl⟩
  rw [hW1] at hg0 hbx
  have HBX := Lib.hid hbx
  have HAT := Lib.hid hat
  have HN := Lib.hid hn
  have HFR := Lib.hid hfr
  have HTR := Lib.hid htr
  have HLI := Lib.hid hli
  have en : ((n : Int) != (n : Int)) = false := by simp
  have eE : ((E : Int) != (E : Int)) = false := by simp
  have hd0 := hg0
  clear hbx hbx0 hat hn hb hl' hln h hv hfr htr hli
  go_enter Tryz.func11, Tryz.ntmps11
  go_wp2_with (first | (go_at_call 20; (with_reducible refine (hwk _ hg0).mono ?_); rintro e w2 ⟨v2, rfl, ho2, hg2⟩))
  obtain ⟨la2, c2, hv2, hat2⟩ := ho2.at_
  subst hv2
  rw [HN.out]
  have HAT2 := Lib.hid hat2
  clear hat2 ho2
  have hcell : ∀ {wq : World}, w2.grownBy wq none → wq.cell? ⟨hb0, 0, none⟩ = some (.int .u64 E) ∧ wq.cell? ⟨hb0, 1, none⟩ = some (.slice la n cap) := fun {wq} hg => by
    obtain ⟨⟨q0, q1, _⟩, _⟩ := ten_cells (HBX.out wq (grown_trans hg2 hg))
    exact ⟨q0, q1⟩
  have HG : w2.grownBy w2.drew none := grown_drew (grown_refl _ _)
  obtain ⟨d0, d1⟩ := hcell HG
  go_region_held3 (fun w' => w'.cell? ⟨hb0, 0, none⟩ = some (.int .u64 E) ∧ w'.cell? ⟨hb0, 1, none⟩ = some (.slice la n cap)) (go_keep) (first | (go_at_call 28; (with_reducible refine (hsz _ (grown_trans hg0 (grown_trans hg2 HG))).mono ?_); rintro e w3 ⟨rfl, hg3⟩; replace HG := grown_trans HG hg3; obtain ⟨d0, d1⟩ := hcell HG))
  go_wp2
  have hgL : w.grownBy _ none := grown_trans hg0 (grown_trans hg2 HG)
  obtain ⟨W3, hW3⟩ : ∃ W3, w3 = W3 := ⟨_, rfl⟩
  have hsince := grown_trans hg2 HG
  clear hg3 d0 d1 hcell
  go_loopw [7] (fun i wr => ∃ k : Nat, k ≤ n ∧ i = .int .i64 k ∧ w2.grownBy wr none) (fun i _ => n - (intOf i).toNat)
  case atStart => exact ⟨0, Nat.zero_le _, rfl, HG⟩
  case round =>
    obtain ⟨k, hk, rfl, hgk⟩ := hrel
    have hg := grown_trans hg2 hgk
    rcases Nat.lt_or_ge k n with h1 | h1
    · rename_i wr
      obtain ⟨b, o, rfl, hb, hcs⟩ := (HAT2.out.later hgk).cells (by rw [HN.out]; omega)
      obtain ⟨b2, o2, rfl, hb2, hcs2⟩ := (HAT.out.later (grown_trans hg0 hg)).cells (by rw [HN.out]; omega)
      have hk1 : k < bs.length := by rw [HN.out]; exact h1
      obtain ⟨x0, ex0⟩ : ∃ x, gO bs k = x := ⟨_, rfl⟩
      obtain ⟨x1, ex1⟩ : ∃ x, gS bs k = x := ⟨_, rfl⟩
      obtain ⟨x2, ex2⟩ : ∃ x, gU bs k = x := ⟨_, rfl⟩
      obtain ⟨x3, ex3⟩ : ∃ x, gW bs k = x := ⟨_, rfl⟩
      obtain ⟨x4, ex4⟩ : ∃ x, gN bs k = x := ⟨_, rfl⟩
      obtain ⟨c0, c1, c2', c3, c4⟩ := hcs k hk1
      obtain ⟨d0, d1, d2, d3, d4⟩ := hcs2 k hk1
      rw [ex0] at c0 d0
      rw [ex1] at c1 d1
      rw [ex2] at c2' d2
      rw [ex3] at c3 d3
      rw [ex4] at c4 d4
      have hmd := fun w => made11_any ⟨x0, x1, x2, x3, x4⟩ w
      simp only at hmd
      have hheap : ∀ {wq : World}, wr.grownBy wq none → wq.cell? ⟨hb0, 1, none⟩ = some (.slice (some ⟨b2, o2, none⟩) n cap) := fun {wq} hq => by
        obtain ⟨⟨q0, q1, _⟩, _⟩ := ten_cells (HBX.out wq (grown_trans hg hq))
        exact q1
      have hcell : ∀ {wq : World}, wr.grownBy wq none → (wq.cell? ⟨b, o + k * 5, none⟩ = some (.int .u64 (x0 : Nat)) ∧ wq.cell? ⟨b, o + k * 5 + 1, none⟩ = some (.int .u64 (x1 : Nat)) ∧ wq.cell? ⟨b, o + k * 5 + 2, none⟩ = some (.bool x2) ∧ wq.cell? ⟨b, o + k * 5 + 3, none⟩ = some (.int .i64 x3) ∧ wq.cell? ⟨b, o + k * 5 + 4, none⟩ = some (.int .u64 (x4 : Nat))) ∧
          (wq.cell? ⟨b2, o2 + k * 5, none⟩ = some (.int .u64 (x0 : Nat)) ∧ wq.cell? ⟨b2, o2 + k * 5 + 1, none⟩ = some (.int .u64 (x1 : Nat)) ∧ wq.cell? ⟨b2, o2 + k * 5 + 2, none⟩ = some (.bool x2) ∧ wq.cell? ⟨b2, o2 + k * 5 + 3, none⟩ = some (.int .i64 x3) ∧ wq.cell? ⟨b2, o2 + k * 5 + 4, none⟩ = some (.int .u64 (x4 : Nat))) ∧ wq.cell? ⟨hb0, 1, none⟩ = some (.slice (some ⟨b2, o2, none⟩) n cap) := fun {wq} hq => by
        have q1 := hq.block b hb (by simp)
        have q2 := hq.block b2 hb2 (by simp)
        have K1 : ∀ {i v}, wr.cell? ⟨b, i, none⟩ = some v → wq.cell? ⟨b, i, none⟩ = some v := fun {i v} hv => (World.cell?_of_block (w := wr) (a := ⟨b, i, none⟩) q1).trans hv
        have K2 : ∀ {i v}, wr.cell? ⟨b2, i, none⟩ = some v → wq.cell? ⟨b2, i, none⟩ = some v := fun {i v} hv => (World.cell?_of_block (w := wr) (a := ⟨b2, i, none⟩) q2).trans hv
        exact ⟨⟨K1 c0, K1 c1, K1 c2', K1 c3, K1 c4⟩, ⟨K2 d0, K2 d1, K2 d2, K2 d3, K2 d4⟩, hheap hq⟩
      have HG2 : wr.grownBy wr.drew none := grown_drew (grown_refl _ _)
      clear c0 c1 c2' c3 c4 d0 d1 d2 d3 d4 hcs hcs2 ex0 ex1 ex2 ex3 ex4 hheap
      obtain ⟨⟨c0, c1, c2', c3, c4⟩, ⟨d0, d1, d2, d3, d4⟩, d5⟩ := hcell HG2
      have hkn : (k : Int) < (n : Int) := by omega
      go_wp2
      go_region_held3 (fun wq => (wq.cell? ⟨b, o + k * 5, none⟩ = some (.int .u64 (x0 : Nat)) ∧ wq.cell? ⟨b, o + k * 5 + 1, none⟩ = some (.int .u64 (x1 : Nat)) ∧ wq.cell? ⟨b, o + k * 5 + 2, none⟩ = some (.bool x2) ∧ wq.cell? ⟨b, o + k * 5 + 3, none⟩ = some (.int .i64 x3) ∧ wq.cell? ⟨b, o + k * 5 + 4, none⟩ = some (.int .u64 (x4 : Nat))) ∧
          (wq.cell? ⟨b2, o2 + k * 5, none⟩ = some (.int .u64 (x0 : Nat)) ∧ wq.cell? ⟨b2, o2 + k * 5 + 1, none⟩ = some (.int .u64 (x1 : Nat)) ∧ wq.cell? ⟨b2, o2 + k * 5 + 2, none⟩ = some (.bool x2) ∧ wq.cell? ⟨b2, o2 + k * 5 + 3, none⟩ = some (.int .i64 x3) ∧ wq.cell? ⟨b2, o2 + k * 5 + 4, none⟩ = some (.int .u64 (x4 : Nat))) ∧ wq.cell? ⟨hb0, 1, none⟩ = some (.slice (some ⟨b2, o2, none⟩) n cap)) (exact hcell HG2)
        (first | (go_at_call 29; ((with_reducible refine (hmd _).mono ?_); rintro e w9 ⟨rfl, hg9⟩; replace HG2 := grown_trans HG2 hg9)))
      have hend := grown_trans hgk HG2
      go_wp2
      go_roundw
      case rel => exact ⟨k + 1, by omega, by go_num, hend⟩
      case measure => simp [intOf]; omega
    · obtain rfl : k = n := by omega
      go_wp2
      go_loopw [8] (fun i wr => ∃ c : Nat, c ≤ 8 ∧ i = .int .i64 c ∧ W1.grownBy wr none) (fun i _ => 8 - (intOf i).toNat)
      case atStart => exact ⟨0, Nat.zero_le _, rfl, hg⟩
      case round =>
        obtain ⟨c, hc, rfl, hgc⟩ := hrel
        rename_i wc
        by_cases hc8 : c < 8
        · have hlc := HLI.out _ c (grown_trans hg0 hgc) hc8
          have hcl := eight_at (f := fun c => .slice (va c) (ln c) (vc c)) (HBX.out _ hgc) hc8
          obtain ⟨xa, exa⟩ : ∃ x, va c = x := ⟨_, rfl⟩
          obtain ⟨xn, exn⟩ : ∃ x, ln c = x := ⟨_, rfl⟩
          obtain ⟨xc, exc⟩ : ∃ x, vc c = x := ⟨_, rfl⟩
          simp only [exa, exn, exc] at hcl
          rw [exa, exn, exc] at hlc
          have c8 : (c : Int) < 8 := by omega
          clear exa exn exc
          go_wp2_with (first | (go_at_call 30; (with_reducible refine hlc.mono ?_); rintro e w5 ⟨rfl, hg5⟩))
          go_roundw
          case rel => exact ⟨c + 1, by omega, by go_num, grown_trans hgc hg5⟩
          case measure => simp [intOf]; omega
        · obtain rfl : c = 8 := by omega
          obtain ⟨⟨q0, q1, q2, q3, q4, q5, q6, q7, q8, q9⟩, _⟩ := ten_cells (HBX.out _ hgc)
          have hf1 := HFR.out _ (grown_trans hg0 hgc)
          go_wp2_with (first | (go_at_call 32; (with_reducible refine hf1.mono ?_); rintro e w6 ⟨fv, rfl, hfo, hg6⟩; obtain ⟨fa, fc, hfe⟩ := hfo.slice; subst hfe; have ht6 := HTR.out _ fa _ fc (grown_trans hg0 (grown_trans hgc hg6)) (lie_at hfo) rfl) | (go_at_call 31; (with_reducible refine ht6.mono ?_); rintro e w7 ⟨rfl, hg7⟩))
          go_ret
          exact ⟨rfl, grown_trans hg0 (grown_trans hgc (grown_trans hg6 hg7))⟩
end
end Go.Proofs.YtcngmkfpbcemjaaGreat
namespace Go.Proofs.YtcngmkfpbcemjaaGreat
open Go.RowKit
set_option maxRecDepth 100000
def frE (bs : List Blk) (p : Nat) : Nat := match fstN (pF p) bs with | some _ => 0 | none => 4
def frB (bs : List Blk) (p : Nat) : List Blk := match fstN (pF p) bs with | some i => joinB (bs.take i ++ freeB (gO bs i) (gS bs i) :: bs.drop (i + 1)) | none => bs
def frL (bs : List Blk) (L : Nat → List Nat) (p : Nat) : Nat → List Nat := match fstN (pF p) bs with | some i => lstB L (bs.getD i default) | none => L
def ctE (bs : List Blk) (p k : Nat) : Nat := match fstN (pF p) bs with | some i => if cutOk (bs.getD i default) k then 0 else 1 | none => 4
def ctB (bs : List Blk) (p k : Nat) : List Blk := match fstN (pF p) bs with
  | some i => if cutOk (bs.getD i default) k ∧ k + 48 ≤ gS bs i then joinB (bs.take i ++ (⟨gO bs i, k, gU bs i, gW bs i, gN bs i⟩ :: freeB (gO bs i + k) (gS bs i - k) :: bs.drop (i + 1))) else bs
  | none => bs
theorem bs_amid {bs : List Blk} {i : Nat} (hi : i < bs.length) : bs = bs.take i ++ bs.getD i default :: bs.drop (i + 1) := by
  have h1 : bs.getD i default = bs[i] := by rw [List.getD_eq_getElem?_getD, List.getElem?_eq_getElem hi]; rfl
  rw [h1, ← List.drop_eq_getElem_cons hi, List.take_append_drop]
theorem pF_some {p : Nat} {bs : List Blk} {i : Nat} (h : fstN (pF p) bs = some i) : i < bs.length ∧ (bs.getD i default).u = true ∧ ((bs.getD i default).off + 32) % 18446744073709551616 = p := by
  obtain ⟨h1, h2⟩ := fstN_some h
  unfold pF at h2
  simp only [Bool.and_eq_true, decide_eq_true_eq] at h2
  exact ⟨h1, h2.1, h2.2⟩
theorem bes_some {p : Nat} {bs : List Blk} {i : Nat} (h : fstN (pF p) bs = some i) : besN (pF p) bs 0 = some (bs.getD i default) ∧ besB (pF p) bs 0 = bs.getD i default := by
  have hi := (fstN_some h).1
  have e : besN (pF p) bs 0 = some (bs.getD i default) := by
    unfold besN
    rw [h]
    dsimp only
    rw [if_pos (by omega), show ((i : Int) + 0).toNat = i by omega]
  exact ⟨e, by unfold besB; rw [e]; rfl⟩
theorem bes_none {p : Nat} {bs : List Blk} (h : fstN (pF p) bs = none) : besN (pF p) bs 0 = none ∧ besB (pF p) bs 0 = Blk.none := by
  have e : besN (pF p) bs 0 = none := by unfold besN; rw [h]
  exact ⟨e, by unfold besB; rw [e]; rfl⟩
def HX (w0 w : World) (T : Nat) (R : Option Nat) (ws : List Nat) (E : Nat) (bs : List Blk) (L : Nat → List Nat) (x v : Nat) : Prop :=
  8 * ws.length = 4800 ∧ ∃ M B D l, Txs w0 w T M R B D ws l ∧ SoundF (txSee ws l) E bs L ∧ txSee ws l x = v
section
variable {w0 w w' : World} {T : Nat} {R : Option Nat} {ws : List Nat} {E p k base x y : Nat} {bs : List Blk} {L : Nat → List Nat} {v : Value}
theorem HX.heap (h : HX w0 w T R ws E bs L x y) : HW w0 w T R ws E bs L := by
  obtain ⟨h0, M, B, D, l, h1, h2, _⟩ := h
  exact ⟨h0, M, B, D, l, h1, h2⟩
theorem HW.word (h : HW w0 w T R ws E bs L) (x : Nat) : ∃ y, y < 18446744073709551616 ∧ HX w0 w T R ws E bs L x y := by
  obtain ⟨h0, M, B, D, l, h1, h2⟩ := h
  exact ⟨_, txSee_lt h1.tx.seg.words h1.tx.ok x, h0, M, B, D, l, h1, h2, rfl⟩
theorem HX.later (h : HX w0 w T R ws E bs L x y) (hg : w.grownBy w' none) : HX w0 w' T R ws E bs L x y := by
  obtain ⟨h0, M, B, D, l, h1, h2, h3⟩ := h
  exact ⟨h0, M, B, D, l, h1.later hg, h2, h3⟩
theorem hx_load (h : HX w0 w T R ws E bs L x y) (hx : x < 18446744073709551616) :
    Calls Tryz.prog 23 #[.pointer (some ⟨T, 0, none⟩), .int .u64 x] w fun e w' => e = .returned (.int .u64 (y : Nat)) ∧ w.grownBy w' none := by
  obtain ⟨h0, M, B, D, l, h1, h2, h3⟩ := h
  have := txload_any h1.tx x hx
  rw [h3] at this
  exact this
theorem free_bad {q : Option Addr} (hfind : Calls Tryz.prog 22 #[.pointer q, .int .u64 p] w fun e w' => e = .returned (.tuple #[.agg #[.int .u64 0, .int .u64 0, .bool false, .int .i64 0, .int .u64 0], .bool false]) ∧ w.grownBy w' none) :
    Calls Tryz.prog 14 #[.pointer q, .int .u64 p] w fun e w' => e = .returned (.int .i64 4) ∧ w.grownBy w' none := by
  go_enter Tryz.func14, Tryz.ntmps14
  go_wp2_with (first | (go_at_call 22; (with_reducible refine hfind.mono ?_); rintro e w1 ⟨rfl, hg1⟩))
  go_ret
  exact ⟨rfl, grown_trans hg1 (World.grownBy_alloc _ _ _)⟩
theorem cut_bad4 {q : Option Addr} (hfind : Calls Tryz.prog 22 #[.pointer q, .int .u64 p] w fun e w' => e = .returned (.tuple #[.agg #[.int .u64 0, .int .u64 0, .bool false, .int .i64 0, .int .u64 0], .bool false]) ∧ w.grownBy w' none) (k : Nat) :
    Calls Tryz.prog 12 #[.pointer q, .int .u64 p, .int .u64 k] w fun e w' => e = .returned (.int .i64 4) ∧ w.grownBy w' none := by
  go_enter Tryz.func12, Tryz.ntmps12
  go_wp2_with (first | (go_at_call 22; (with_reducible refine hfind.mono ?_); rintro e w1 ⟨rfl, hg1⟩))
  go_ret
  exact ⟨rfl, grown_trans hg1 (World.grownBy_alloc _ _ _)⟩
theorem hw_find_none (h : HW w0 w T R ws E bs L) (hf : fstN (pF p) bs = none) :
    Calls Tryz.prog 22 #[.pointer (some ⟨T, 0, none⟩), .int .u64 p] w fun e w' => e = .returned (.tuple #[.agg #[.int .u64 0, .int .u64 0, .bool false, .int .i64 0, .int .u64 0], .bool false]) ∧ w.grownBy w' none := by
  have := hw_find h p
  rw [(bes_none hf).1, (bes_none hf).2] at this
  exact this
theorem hw_find_some (h : HW w0 w T R ws E bs L) {i : Nat} (hf : fstN (pF p) bs = some i) :
    Calls Tryz.prog 22 #[.pointer (some ⟨T, 0, none⟩), .int .u64 p] w fun e w' => e = .returned (.tuple #[(bs.getD i default).val, .bool true]) ∧ w.grownBy w' none := by
  have := hw_find h p
  rw [(bes_some hf).1, (bes_some hf).2] at this
  exact this
theorem SoundF.pay {f : Nat → Nat} (h : SoundF f E bs L) {i : Nat} (hf : fstN (pF p) bs = some i) : p = (bs.getD i default).off + 32 := by
  obtain ⟨h1, h2, h3⟩ := pF_some hf
  have hb := h.told.is _ (getB_mem h1)
  have := hb.hi
  have := h.low
  omega
theorem SoundF.frees0 {f : Nat → Nat} (h : SoundF f E bs L) : ∀ b ∈ bs, b.u = false → b.o = 0 ∧ b.n = 0 := fun b hb hu => by
  have hi := h.told.is b hb
  have hl := hi.len
  rw [if_neg (by rw [hu]; decide)] at hl
  exact ⟨(may_bounds hi.may).2.2.2.2.2 hu, hl⟩
theorem fr_code (h : HW w0 w T R ws E bs L) (p : Nat) :
    Calls Tryz.prog 14 #[.pointer (some ⟨T, 0, none⟩), .int .u64 p] w fun e w' => e = .returned (.int .i64 (frE bs p : Nat)) ∧ ∃ R', HW w0 w' T R' ws E (frB bs p) (frL bs L p) ∧ Keep w R w' R' := by
  unfold frE frB frL
  cases hf : fstN (pF p) bs with
  | none =>
    refine (free_bad (hw_find_none h hf)).mono ?_
    rintro e w' ⟨rfl, hg⟩
    exact ⟨rfl, R, h.later hg, Keep.of_grown hg⟩
  | some i =>
    obtain ⟨hi, hu, _⟩ := pF_some hf
    have hfind := hw_find_some h hf
    obtain ⟨h0, M, B, D, l, X, hS⟩ := h
    have hp := hS.pay hf
    have hz := hS.frees0
    have hbs := bs_amid hi
    dsimp only
    show Calls Tryz.prog 14 #[.pointer (some ⟨T, 0, none⟩), .int .u64 p] w fun e w' => e = .returned (.int .i64 0) ∧ ∃ R', HW w0 w' T R' ws E (joinB (bs.take i ++ freeB (bs.getD i default).off (bs.getD i default).s :: bs.drop (i + 1))) (lstB L (bs.getD i default)) ∧ Keep w R w' R'
    obtain ⟨b, hb⟩ : ∃ b, bs.getD i default = b := ⟨_, rfl⟩
    obtain ⟨A, hA⟩ : ∃ A, bs.take i = A := ⟨_, rfl⟩
    obtain ⟨C, hC⟩ : ∃ C, bs.drop (i + 1) = C := ⟨_, rfl⟩
    rw [hb, hA, hC] at hbs
    rw [hb] at hu hp hfind
    rw [hb, hA, hC]
    subst hp
    rw [hbs] at hS hz
    refine (hfree_ok X h0 hS hu hfind).mono ?_
    rintro e w' ⟨rfl, R', l', X', hS', K⟩
    rw [join_free hS.merged fun x hx => hz x (by simp [hx])]
    exact ⟨rfl, R', ⟨h0, M, B, D, l', X', hS'⟩, K⟩
theorem HvK.of_rows {V : World} {R0 : Option Nat} {v' : Value} {bs' : List Blk} {L' : Nat → List Nat} (hv : HvK V R0 base v E bs L) (h1 : HvIs w' base v' E bs' L') (hrw : RowsOf v v' V.heap.size) (hR : ∀ g, R0 = some g → g < V.heap.size) : HvK w' R0 base v' E bs' L' := by
  obtain ⟨b0, vs0, e0, o0, k0⟩ := hv
  obtain ⟨b, vs, q1, q2, q3⟩ := h1.is
  obtain ⟨b', vs', q4, q5⟩ := hrw E b0 vs0 e0
  have q6 := (heapV_inj (q1.symm.trans q4)).2
  refine ⟨b, vs, q1, q2, fun c hc => ⟨q3 c hc, fun g hg e => ?_⟩⟩
  rw [q6 c hc] at hg
  rcases q5 c hc with h7 | h7
  · rw [h7] at hg
    exact (k0 c hc).2 g hg e
  · have := h7 g hg
    have := hR g e
    omega
theorem fr_ref {V : World} {R0 : Option Nat} (h : HW w0 w T R ws E bs L) (hR : ∀ g, R0 = some g → g < V.heap.size) (hv : HvK V R0 base v E bs L) (hb : base ≤ V.heap.size) (p : Nat) :
    Calls Tryz.prog 15 #[v, .int .u64 p] V fun e w' => ∃ v', e = .returned (.tuple #[v', .int .i64 (frE bs p : Nat)]) ∧ HvK w' R0 base v' E (frB bs p) (frL bs L p) ∧ V.grownBy w' none := by
  have h6 := hw_few600 h
  have hbd := hw_bounds h
  have hl : ∀ c, c < 8 → (L c).length ≤ 1000 := fun c hc => by have := hw_list_few h hc; omega
  unfold frE frB frL
  cases hf : fstN (pF p) bs with
  | none =>
    refine (rfree11_none hv.is (by omega) hf).mono ?_
    rintro e w' ⟨rfl, hg⟩
    exact ⟨v, rfl, hv.later hg, hg⟩
  | some i =>
    obtain ⟨hi, hu, _⟩ := pF_some hf
    obtain ⟨h0, M, B, D, l, X, hS⟩ := h
    have hm := may_bounds (hS.told.is _ (getB_mem hi)).may
    have hbs := bs_amid hi
    dsimp only
    show Calls Tryz.prog 15 #[v, .int .u64 p] V fun e w' => ∃ v', e = .returned (.tuple #[v', .int .i64 0]) ∧ HvK w' R0 base v' E (joinB (bs.take i ++ freeB (bs.getD i default).off (bs.getD i default).s :: bs.drop (i + 1))) (lstB L (bs.getD i default)) ∧ V.grownBy w' none
    have hti : (bs.take i).length = i := by rw [List.length_take]; omega
    have hv' := hv.is
    obtain ⟨b, hb'⟩ : ∃ b, bs.getD i default = b := ⟨_, rfl⟩
    obtain ⟨A, hA⟩ : ∃ A, bs.take i = A := ⟨_, rfl⟩
    obtain ⟨C, hC⟩ : ∃ C, bs.drop (i + 1) = C := ⟨_, rfl⟩
    rw [hb', hA, hC] at hbs
    rw [hb'] at hm
    rw [hA] at hti
    rw [hb', hA, hC]
    rw [hbs] at h6 hbd hv' hf
    rw [← hti] at hf
    refine (rfree11_ok hv' hb (by omega) hbd hf hl ⟨hm.2.2.2.1, hm.2.2.2.2.1⟩).mono ?_
    rintro e w' ⟨v', rfl, h1, hrw, hg⟩
    exact ⟨v', rfl, hv.of_rows h1 hrw hR, hg⟩
theorem ct_hx (h : HX w0 w T R ws E bs L x y) (hx : ∀ i, fstN (pF p) bs = some i → x = gO bs i + 32) (k : Nat) :
    Calls Tryz.prog 12 #[.pointer (some ⟨T, 0, none⟩), .int .u64 p, .int .u64 k] w fun e w' => e = .returned (.int .i64 (ctE bs p k : Nat)) ∧ ∃ R', HX w0 w' T R' ws E (ctB bs p k) L x y ∧ Keep w R w' R' := by
  unfold ctE ctB
  cases hf : fstN (pF p) bs with
  | none =>
    refine (cut_bad4 (hw_find_none h.heap hf) k).mono ?_
    rintro e w' ⟨rfl, hg⟩
    exact ⟨rfl, R, h.later hg, Keep.of_grown hg⟩
  | some i =>
    obtain ⟨hi, hu, _⟩ := pF_some hf
    have hfind := hw_find_some h.heap hf
    have hx' := hx i hf
    have hh := h
    obtain ⟨h0, M, B, D, l, X, hS, hy⟩ := h
    have hp := hS.pay hf
    have hbs := bs_amid hi
    have hbi := hS.told.is _ (getB_mem hi)
    dsimp only
    unfold gO at hx'
    unfold gO gS gU gW gN
    obtain ⟨b, hb⟩ : ∃ b, bs.getD i default = b := ⟨_, rfl⟩
    rw [hb] at hfind hu hp hbi hx'
    rw [hb]
    have hlen := hbi.len
    rw [if_pos hu] at hlen
    have hhi := hbi.hi
    have hlow := hS.low
    have hfind' : Calls Tryz.prog 22 #[.pointer (some ⟨T, 0, none⟩), .int .u64 p] w fun e w' => e = .returned (.tuple #[.agg #[.int .u64 (b.off : Nat), .int .u64 (b.s : Nat), .bool true, .int .i64 b.o, .int .u64 (b.n : Nat)], .bool true]) ∧ w.grownBy w' none := by
      have := hfind
      unfold Blk.val at this
      rw [hu] at this
      exact this
    have hmay := relmay_any b k (by omega)
    rw [hu] at hmay
    by_cases hk : cutOk b k
    · rw [decide_eq_true hk] at hmay
      rw [if_pos hk]
      by_cases hr : k + 48 ≤ b.s
      · rw [if_pos ⟨hk, hr⟩]
        obtain ⟨A, hA⟩ : ∃ A, bs.take i = A := ⟨_, rfl⟩
        obtain ⟨C, hC⟩ : ∃ C, bs.drop (i + 1) = C := ⟨_, rfl⟩
        rw [hb, hA, hC] at hbs
        rw [hA, hC]
        subst hp
        rw [hbs] at hS
        refine (hcut_ok X h0 hS hu hk hr hfind).mono ?_
        rintro e w' ⟨rfl, R', l', X', ⟨hS', hst⟩, K⟩
        rw [hu, join_cut hS.merged (b' := ⟨b.off, k, true, b.o, b.n⟩) rfl]
        have hn := need48 b.n
        refine ⟨rfl, R', ⟨h0, M, B, D, l', X', hS', ?_⟩, K⟩
        rw [hx', hst _ (by omega) (by have := hk.2.1; omega), ← hx', hy]
      · rw [if_neg fun h => hr h.2]
        refine (cut_few ⟨hk.2.2, by omega, by omega⟩ hfind' hmay).mono ?_
        rintro e w' ⟨rfl, hg⟩
        exact ⟨rfl, R, hh.later hg, Keep.of_grown hg⟩
    · rw [decide_eq_false hk] at hmay
      rw [if_neg hk, if_neg fun h => hk h.1]
      refine (cut_bad hfind' hmay).mono ?_
      rintro e w' ⟨rfl, hg⟩
      exact ⟨rfl, R, hh.later hg, Keep.of_grown hg⟩
theorem ct_code (h : HW w0 w T R ws E bs L) (p k : Nat) :
    Calls Tryz.prog 12 #[.pointer (some ⟨T, 0, none⟩), .int .u64 p, .int .u64 k] w fun e w' => e = .returned (.int .i64 (ctE bs p k : Nat)) ∧ ∃ R', HW w0 w' T R' ws E (ctB bs p k) L ∧ Keep w R w' R' := by
  obtain ⟨y, _, hy⟩ := h.word (match fstN (pF p) bs with | some i => gO bs i + 32 | none => 0)
  refine (ct_hx hy (fun i hi => by rw [hi]) k).mono ?_
  rintro e w' ⟨rfl, R', h1, K⟩
  exact ⟨rfl, R', h1.heap, K⟩
theorem ct_ref {V : World} {R0 : Option Nat} (h : HW w0 w T R ws E bs L) (hR : ∀ g, R0 = some g → g < V.heap.size) (hv : HvK V R0 base v E bs L) (hb : base ≤ V.heap.size) (p k : Nat) (hk64 : k < 18446744073709551616) :
    Calls Tryz.prog 13 #[v, .int .u64 p, .int .u64 k] V fun e w' => ∃ v', e = .returned (.tuple #[v', .int .i64 (ctE bs p k : Nat)]) ∧ HvK w' R0 base v' E (ctB bs p k) L ∧ V.grownBy w' none := by
  have h6 := hw_few600 h
  have hbd := hw_bounds h
  unfold ctE ctB
  cases hf : fstN (pF p) bs with
  | none =>
    refine (rcut11_none hv.is (by omega) hf k).mono ?_
    rintro e w' ⟨rfl, hg⟩
    exact ⟨v, rfl, hv.later hg, hg⟩
  | some i =>
    obtain ⟨hi, hu, _⟩ := pF_some hf
    obtain ⟨h0, M, B, D, l, X, hS⟩ := h
    have hbi := hS.told.is _ (getB_mem hi)
    have hlen := hbi.len
    rw [if_pos hu] at hlen
    have hhi := hbi.hi
    have hlow := hS.low
    have hbs := bs_amid hi
    dsimp only
    by_cases hk : cutOk (bs.getD i default) k
    · rw [if_pos hk]
      by_cases hr : k + 48 ≤ gS bs i
      · rw [if_pos ⟨hk, hr⟩]
        unfold gS at hr
        unfold gO gS gU gW gN
        have hti : (bs.take i).length = i := by rw [List.length_take]; omega
        have hv' := hv.is
        obtain ⟨b, hb'⟩ : ∃ b, bs.getD i default = b := ⟨_, rfl⟩
        obtain ⟨A, hA⟩ : ∃ A, bs.take i = A := ⟨_, rfl⟩
        obtain ⟨C, hC⟩ : ∃ C, bs.drop (i + 1) = C := ⟨_, rfl⟩
        rw [hb', hA, hC] at hbs
        rw [hb'] at hk hr hlen hhi
        rw [hA] at hti
        rw [hb', hA, hC]
        rw [hbs] at h6 hbd hv' hf
        rw [← hti] at hf
        refine (rcut11_ok hv' hb (by omega) hbd hf (by omega) ⟨hk.1, hk.2.1, hr⟩).mono ?_
        rintro e w' ⟨v', rfl, h1, hrw, hg⟩
        exact ⟨v', rfl, hv.of_rows h1 hrw hR, hg⟩
      · rw [if_neg fun h => hr h.2]
        unfold gS at hr
        refine (rcut11_few hv.is (by omega) hf (by omega) (by omega) hk64 hk (by omega)).mono ?_
        rintro e w' ⟨rfl, hg⟩
        exact ⟨v, rfl, hv.later hg, hg⟩
    · rw [if_neg hk, if_neg fun h => hk h.1]
      refine (rcut11_bad hv.is (by omega) hf (by omega) (by omega) hk64 hk).mono ?_
      rintro e w' ⟨rfl, hg⟩
      exact ⟨v, rfl, hv.later hg, hg⟩
end
end Go.Proofs.YtcngmkfpbcemjaaGreat
