/-
  What the statements of layer 7 begin with: a formatted segment of 4800 bytes, in which blocks are laid, and where the free ones of these are (laid).
  Conditions: the pieces lie in memory.
-/
import Derived.Test.YthhboidjibdahaaGreatTreeJ
import Derived.Test.YthhboidjibdahaaGreatTreeN
import Derived.Test.YthhboidjibdahaaGreatTreeSa
import Derived.Test.YthhboidjibdahaaGreatTreeC
import Derived.Test.YthhboidjibdahaaGreatLPhys
namespace Go.Proofs.YthhboidjibdahaaGreat
open Go.RowKit
set_option linter.unusedVariables false
set_option linter.unusedSimpArgs false

/-- What laid tells. -/
def Laid7W (w : World) (n : Nat) (e : Ending) (w' : World) : Prop :=
  ∃ l N, Laid7 l N ∧ N ≤ n + 1 ∧ ∃ B D T M R wv pv fv, e = .returned (.tuple #[.pointer (some ⟨T, 0, none⟩), .agg #[wv, pv], fv]) ∧ Txs w w' T M R B D (fmt48 4800) l ∧ RTx w' w.heap.size wv pv (fmt48 4800) l ∧ OwnW w' w.heap.size fv (freeN (txSee (fmt48 4800) l) N) ∧ (∀ g, wv.ownBlock = some g → R ≠ some g) ∧ ∀ g, fv.ownBlock = some g → R ≠ some g
structure Laid7F (ws : List Nat) (l : List (Nat × Nat)) (N : Nat) : Prop where
  heap : Heap ws l (blks (txSee ws l) N) 0
  free : FreeL (freeN (txSee ws l) N) ∧ N ≤ 1000000
theorem laid7_facts {l : List (Nat × Nat)} {N : Nat} (h : Laid7 l N) : Laid7F (fmt48 4800) l N := by
  have hN := walks_small (ws := fmt48 4800) (by rw [fmt48_len]; decide) h.chk h.walks
  refine ⟨⟨.inr ⟨h.chk, N, true, h.walks, ?_, ?_⟩, by rw [blks_len]; exact hN⟩, h.frees.1, hN⟩
  · unfold wkL; rw [if_pos rfl]
  · unfold wkE; rw [if_pos rfl]
set_option maxHeartbeats 8000000 in
set_option maxRecDepth 100000 in
theorem laid7_any {w : World} {la : Option Addr} {n c : Nat} {A B C : Nat → Nat} (hp : PiecesAt w la n A B C) (hc : n ≤ c) (hn : n ≤ maxLen) :
    Calls Tryz.prog 6 #[.slice la n c] w (Laid7W w n) := by
  unfold maxLen at hn
  have hfo : ∀ w, Calls Tryz.prog 19 #[.int .u64 4800, .slice none 0 0] w _ := fun w => formed7_nil 4800 (by decide) w
  have hg0 : w.grownBy (w.alloc (.cells #[.slice none 0 0, .slice none 0 0] 29)) none := World.grownBy_alloc _ _ _
  have hres0 : (w.alloc (.cells #[.slice none 0 0, .slice none 0 0] 29)).heap[w.heap.size]? = some (.cells #[.slice none 0 0, .slice none 0 0] 29 (0, 0)) := heap_alloc_new' _ _
  have hly := fun (w1 : World) (hg : w.grownBy w1 none) (base : Nat) (wv pv : Value) (hrt : RTx w1 base wv pv (fmt48 4800) []) (hb : base ≤ w1.heap.size) (hlt : ∀ x ∈ fmt48 4800, x < 18446744073709551616) (la' : Option Addr) (m c' : Nat) (hm : PiecesAt w1 la' m A B C) (hm20 : m ≤ 20) => rlay7_any (c := c') hrt hb hlt hm hm20
  by_cases h20 : 20 < n
  · have h20' : (20 : Int) < (n : Int) := by omega
    have hc20 : (20 : Int) ≤ (c : Int) := by omega
    go_enter Tryz.func6, Tryz.ntmps6
    go_wp2_with (first | (go_at_call 19; ((with_reducible refine (hfo _).mono ?_); rintro e w1 ⟨Bb, Db, T, M, R, wv, pv, rfl, X1, hrt, hap⟩; obtain ⟨wa, wn, wc, hwv⟩ := wv_form hrt.words; subst hwv; obtain ⟨pa, pn, pc, hpv⟩ := pv_form hrt.puts; subst hpv)) | (go_at_call 20; ((with_reducible refine (hly _ (grown_trans hg0 (grown_trans X1.since (World.grownBy_alloc _ _ _))) _ _ _ (hrt.later (World.grownBy_alloc _ _ _)) (Nat.le_trans X1.since.size (World.grownBy_alloc _ _ none).size) X1.tx.seg.words _ _ _ ((hp.less (by omega)).later (grown_trans hg0 (grown_trans X1.since (World.grownBy_alloc _ _ _)))) (Nat.le_refl _)).mono ?_); rintro e w3 ⟨lL, pv3, NN, rfl, hr3, hL, hg3, hNn⟩; obtain ⟨pa3, pn3, pc3, hpv3⟩ := pv_form hr3.puts; subst hpv3; have hb3 := (hg3.block _ (lt_of_block (heap_alloc_new' _ _)) (by simp)).trans (heap_alloc_new' w1 (.cells #[.slice wa wn wc, .slice pa pn pc] 29)); obtain ⟨z0, z1⟩ := two_cells hb3; have zf0 : w3.frozen? ⟨w1.heap.size, 0, none⟩ = false := (by simp [World.frozen?, hb3]); have zf1 : w3.frozen? ⟨w1.heap.size, 1, none⟩ = false := (by simp [World.frozen?, hb3]); clear hb3)))
    have hgA := World.grownBy_alloc w1 (.cells #[.slice wa wn wc, .slice pa pn pc] 29) none
    have RA : ThMid w T M Bb Db w1.heap.size w.heap.size (.slice wa wn wc) (fmt48 4800) [] [] (w1.alloc (.cells #[.slice wa wn wc, .slice pa pn pc] 29)) :=
      ⟨⟨R, (Txs.from hg0 X1).later hgA, hap⟩, ⟨_, heap_alloc_new' _ _, (hrt.mono hg0.size).later hgA⟩, ((grown_trans X1.since hgA).block _ (lt_of_block hres0) (by simp)).trans hres0⟩
    have hsz1 : w.heap.size + 1 ≤ w1.heap.size := by have := X1.since.size; rwa [World.size_alloc] at this
    have hbxn : w.heap.size ≤ w1.heap.size := by omega
    have hbxne : w1.heap.size ≠ w.heap.size := by omega
    have R0 := RA.told hg3 (hr3.mono hg0.size) hbxn hbxne
    obtain ⟨ws, ews⟩ : ∃ ws, fmt48 4800 = ws := ⟨_, rfl⟩
    have hl6 : ws.length = 600 := by rw [← ews]; exact fmt48_len _
    have hokL : TxOk ws lL := by rw [← ews]; exact hL.ok
    rw [ews] at R0
    have HL := Lib.hid hL
    have HW := Lib.hid ews
    have hbL : lL.length ≤ 600 := by have := hokL.len; omega
    have HTF := Lib.hid (laid7_facts hL)
    have HNn := Lib.hid (show NN ≤ n + 1 by omega)
    clear hNn
    clear hg3 hr3 hrt X1 hap RA hgA hg0 hres0 hfo hly hL ews hp
    generalize w1.heap.size = bx at *
    go_loopw [7] (fun i wr => ∃ j : Nat, j ≤ lL.length ∧ i = .int .i64 j ∧ ThMid w T M Bb Db bx w.heap.size (.slice wa wn wc) ws lL (lL.take j) wr) (fun i _ => lL.length - (intOf i).toNat)
    case atStart => exact ⟨0, Nat.zero_le _, rfl, by rw [List.take_zero]; exact R0⟩
    case round =>
      obtain ⟨j, hj, rfl, RQ⟩ := hrel
      clear R0
      have hgr : w.grownBy wr none := by obtain ⟨_, h1, _⟩ := RQ.tx; exact h1.since
      obtain ⟨pv2, hbox, hrt⟩ := RQ.box
      obtain ⟨qa, qc, qg, hpv, hpa, hpc⟩ := hrt.puts.addr
      subst hpv
      have d0 : wr.cell? ⟨bx, 0, none⟩ = some (.slice wa wn wc) := by simp [World.cell?, hbox]
      have d1 : wr.cell? ⟨bx, 1, none⟩ = some (.slice qa lL.length qc) := by simp [World.cell?, hbox]
      rcases Nat.lt_or_ge j lL.length with h1 | h1
      · obtain rfl := hpa (by omega)
        obtain ⟨c1, c2⟩ := hpc _ hrt.puts j h1
        have hlt2 := hokL.lt (by omega) j
        have hst := (RQ.later (grown_drew (grown_refl _ _))).more (txX lL j) (txV lL j) hlt2.1 hlt2.2
        rw [store_take hokL h1] at hst
        clear hpc hpa hbox hrt RQ
        go_wp2
        go_still_tail 13, (by kernel_rfl)
        go_wp2_with (go_at_call 21; refine hst.mono ?_; rintro e v2 ⟨rfl, Q⟩)
        go_roundw
        case rel => exact ⟨j + 1, by omega, by go_num, Q⟩
        case measure => simp [intOf]; omega
      · obtain rfl : j = lL.length := by omega
        rw [List.take_length] at RQ
        obtain ⟨Rr, hT, hap⟩ := RQ.tx
        have hTF := HTF.out
        rw [HW.out] at hTF
        have hwlk := rwalk_any hrt hgr.size (by omega) (by omega) hokL hT.tx.seg.words hTF.heap
        have HRES := Lib.hid RQ.res
        have HT := Lib.hid hT
        have HRT := Lib.hid hrt
        have HAP := Lib.hid hap
        have HBX := Lib.hid hbox
        have HFR := Lib.hid hTF.free
        obtain ⟨f, ef⟩ : ∃ f, txSee ws lL = f := ⟨_, rfl⟩
        have HEF := Lib.hid ef
        rw [ef] at hwlk
        obtain ⟨m, hm⟩ : ∃ m, lL.length = m := ⟨_, rfl⟩
        have HMM := Lib.hid hm
        rw [hm] at d1 hwlk HRT HBX ⊢
        simp only [show ((0 : Nat) : Int) = 0 from rfl] at hwlk
        clear hpa hpc hrt hT hap RQ hbox hTF ef hm
        go_wp2_with (go_at_call 22; (with_reducible refine hwlk.mono ?_); rintro e w5 ⟨bv, rfl, ho5, hg5⟩; obtain ⟨bla, bc, hbv, hat5⟩ := ho5.at_; subst hbv)
        have hNN : (blks f NN).length = NN := blks_len _ _
        have HNN := Lib.hid hNN
        simp only [hNN]
        have HAT := Lib.hid hat5
        have hNs : NN ≤ 1000000 := HFR.out.2
        clear hat5 ho5 hwlk hNN
        go_loopw [11, 10] (fun i v wq => ∃ k : Nat, k ≤ NN ∧ i = .int .i64 k ∧ OwnW wq w5.heap.size v (freeN f k) ∧ w5.grownBy wq none) (fun i _ _ => NN - (intOf i).toNat)
        case atStart => exact ⟨0, Nat.zero_le _, rfl, World.ownsRow_nil _ _ _ _, grown_refl _ _⟩
        case round =>
          obtain ⟨k, hk, rfl, hown, hgq⟩ := hrel
          have hfl := freeN_len (f := f) k
          rcases Nat.lt_or_ge k NN with h1 | h1
          · obtain ⟨bb, off, rfl, hbb, hcs⟩ := (HAT.out.later hgq).cells (by rw [HNN.out]; omega)
            obtain ⟨c0, _, c2, _, _⟩ := hcs k (by rw [HNN.out]; exact h1)
            have e0 : gO (blks f NN) k = offs f k := by unfold gO; rw [blks_get f h1]; rfl
            have e2 : gU (blks f NN) k = uus (f (offs f k)) := by unfold gU; rw [blks_get f h1]; rfl
            rw [e0] at c0
            rw [e2] at c2
            obtain ⟨x, hx⟩ : ∃ x, offs f k = x := ⟨_, rfl⟩
            rw [hx] at c0 c2
            obtain ⟨u, hu⟩ : ∃ u, uus (f x) = u := ⟨_, rfl⟩
            rw [hu] at c2
            have HX := Lib.hid hx
            have HU := Lib.hid hu
            have hk1 : (k : Int) < (NN : Int) := by omega
            obtain ⟨fa, fn, fc, hfv⟩ := wv_form hown
            subst hfv
            have HOWN := Lib.hid hown
            have hsz5 := hgq.size
            clear hcs hx hu e0 e2 hown
            cases u with
            | true =>
              go_wp2
              go_roundw
              case rel => exact ⟨k + 1, by omega, by go_num, by unfold freeN; rw [HX.out, HU.out, if_pos rfl, List.append_nil]; exact HOWN.out, hgq⟩
              case measure => simp [intOf]; omega
            | false =>
              go_wp2_with (at_builtin; go_must (refine wpList_append_num rfl _ _ rfl w5.heap.size (.slice fa fn fc) (freeN f k) rfl HOWN.out x rfl (by omega) hsz5 ?_); intro v8 w8 hown8 hg8 hloc8)
              go_roundw
              case rel => exact ⟨k + 1, by omega, by go_num, by unfold freeN; rw [HX.out, HU.out]; exact hown8, grown_step hgq hg8 (fun i hi => .inl (World.ownsRow.lt HOWN.out i hi).1)⟩
              case measure => simp [intOf]; omega
          · obtain rfl : k = NN := by omega
            have hgA := grown_trans hg5 hgq
            have hres := two_held HRES.out hgA
            have hbx2 := two_held HBX.out hgA
            have e0 : wr.cell? ⟨w.heap.size, 0, none⟩ = some (.slice none 0 0) := by simp [World.cell?, hres]
            have e1 : wr.cell? ⟨w.heap.size, 1, none⟩ = some (.slice none 0 0) := by simp [World.cell?, hres]
            have f0 : wr.frozen? ⟨w.heap.size, 0, none⟩ = false := by simp [World.frozen?, hres]
            have f1 : wr.frozen? ⟨w.heap.size, 1, none⟩ = false := by simp [World.frozen?, hres]
            obtain ⟨g0, g1⟩ := two_cells hbx2
            have hs : wr.grownBy ((wr.setCell ⟨w.heap.size, 0, none⟩ (.slice wa wn wc)).setCell ⟨w.heap.size, 1, none⟩ (.slice qa m qc)).drew (some w.heap.size) := grown_drew (grown_trans (grown_set _ _ _ _) (grown_set _ _ _ _))
            obtain ⟨fa, fn, fc, hfv⟩ := wv_form hown
            subst hfv
            have hfo : OwnW ((wr.setCell ⟨w.heap.size, 0, none⟩ (.slice wa wn wc)).setCell ⟨w.heap.size, 1, none⟩ (.slice qa m qc)).drew w5.heap.size (.slice fa fn fc) (freeN f k) := World.ownsRow.kept hown hs (by
              by_cases e : (Value.slice fa fn fc).ownBlock = none
              · exact .inl e
              · refine .inr fun e2 => ?_
                have h9 := (World.ownsRow.lt hown _ e2).1
                have h8 := lt_of_block HRES.out
                have := hg5.size
                omega)
            have hend : Laid7W w n (.returned (.tuple #[.pointer (some ⟨T, 0, none⟩), .agg #[.slice wa wn wc, .slice qa m qc], .slice fa fn fc])) ((wr.setCell ⟨w.heap.size, 0, none⟩ (.slice wa wn wc)).setCell ⟨w.heap.size, 1, none⟩ (.slice qa m qc)).drew := by
              refine ⟨lL, k, HL.out, HNn.out, Bb, Db, T, M, Rr, .slice wa wn wc, .slice qa m qc, .slice fa fn fc, rfl, ?_, ?_, ?_, HAP.out, fun g e e2 => ?_⟩
              · rw [HW.out]; exact (HT.out.later hgA).other hres (Nat.le_refl _) hs
              · rw [HW.out]; exact (HRT.out.later hgA).other hres hs
              · rw [HW.out, HEF.out]; exact hfo.mono (by have := hg5.size; have := lt_of_block HRES.out; omega)
              · have h9 := (World.ownsRow.lt hown _ e).1
                have h8 := HT.out.tx.ltR e2
                have := hg5.size
                omega
            have HE := Lib.hid hend
            clear hres hbx2 hs hend hfo hown hgq
            go_wp2
            go_region
            all_goals go_wp2
            refine bodyPost_ret (v := .tuple #[.pointer (some ⟨T, 0, none⟩), .agg #[.slice wa wn wc, .slice qa m qc], .slice fa fn fc]) (by simp [results, Tryz.results6, go_sem, e0, e1]) rfl ?_
            exact HE.out
  · have h20' : ¬ (20 : Int) < (n : Int) := by omega
    go_enter Tryz.func6, Tryz.ntmps6
    go_wp2_with (first | (go_at_call 19; ((with_reducible refine (hfo _).mono ?_); rintro e w1 ⟨Bb, Db, T, M, R, wv, pv, rfl, X1, hrt, hap⟩; obtain ⟨wa, wn, wc, hwv⟩ := wv_form hrt.words; subst hwv; obtain ⟨pa, pn, pc, hpv⟩ := pv_form hrt.puts; subst hpv)) | (go_at_call 20; ((with_reducible refine (hly _ (grown_trans hg0 (grown_trans X1.since (World.grownBy_alloc _ _ _))) _ _ _ (hrt.later (World.grownBy_alloc _ _ _)) (Nat.le_trans X1.since.size (World.grownBy_alloc _ _ none).size) X1.tx.seg.words _ _ _ (hp.later (grown_trans hg0 (grown_trans X1.since (World.grownBy_alloc _ _ _)))) (by omega)).mono ?_); rintro e w3 ⟨lL, pv3, NN, rfl, hr3, hL, hg3, hNn⟩; obtain ⟨pa3, pn3, pc3, hpv3⟩ := pv_form hr3.puts; subst hpv3; have hb3 := (hg3.block _ (lt_of_block (heap_alloc_new' _ _)) (by simp)).trans (heap_alloc_new' w1 (.cells #[.slice wa wn wc, .slice pa pn pc] 29)); obtain ⟨z0, z1⟩ := two_cells hb3; have zf0 : w3.frozen? ⟨w1.heap.size, 0, none⟩ = false := (by simp [World.frozen?, hb3]); have zf1 : w3.frozen? ⟨w1.heap.size, 1, none⟩ = false := (by simp [World.frozen?, hb3]); clear hb3)))
    have hgA := World.grownBy_alloc w1 (.cells #[.slice wa wn wc, .slice pa pn pc] 29) none
    have RA : ThMid w T M Bb Db w1.heap.size w.heap.size (.slice wa wn wc) (fmt48 4800) [] [] (w1.alloc (.cells #[.slice wa wn wc, .slice pa pn pc] 29)) :=
      ⟨⟨R, (Txs.from hg0 X1).later hgA, hap⟩, ⟨_, heap_alloc_new' _ _, (hrt.mono hg0.size).later hgA⟩, ((grown_trans X1.since hgA).block _ (lt_of_block hres0) (by simp)).trans hres0⟩
    have hsz1 : w.heap.size + 1 ≤ w1.heap.size := by have := X1.since.size; rwa [World.size_alloc] at this
    have hbxn : w.heap.size ≤ w1.heap.size := by omega
    have hbxne : w1.heap.size ≠ w.heap.size := by omega
    have R0 := RA.told hg3 (hr3.mono hg0.size) hbxn hbxne
    obtain ⟨ws, ews⟩ : ∃ ws, fmt48 4800 = ws := ⟨_, rfl⟩
    have hl6 : ws.length = 600 := by rw [← ews]; exact fmt48_len _
    have hokL : TxOk ws lL := by rw [← ews]; exact hL.ok
    rw [ews] at R0
    have HL := Lib.hid hL
    have HW := Lib.hid ews
    have hbL : lL.length ≤ 600 := by have := hokL.len; omega
    have HTF := Lib.hid (laid7_facts hL)
    have HNn := Lib.hid (show NN ≤ n + 1 by omega)
    clear hNn
    clear hg3 hr3 hrt X1 hap RA hgA hg0 hres0 hfo hly hL ews hp
    generalize w1.heap.size = bx at *
    go_loopw [7] (fun i wr => ∃ j : Nat, j ≤ lL.length ∧ i = .int .i64 j ∧ ThMid w T M Bb Db bx w.heap.size (.slice wa wn wc) ws lL (lL.take j) wr) (fun i _ => lL.length - (intOf i).toNat)
    case atStart => exact ⟨0, Nat.zero_le _, rfl, by rw [List.take_zero]; exact R0⟩
    case round =>
      obtain ⟨j, hj, rfl, RQ⟩ := hrel
      clear R0
      have hgr : w.grownBy wr none := by obtain ⟨_, h1, _⟩ := RQ.tx; exact h1.since
      obtain ⟨pv2, hbox, hrt⟩ := RQ.box
      obtain ⟨qa, qc, qg, hpv, hpa, hpc⟩ := hrt.puts.addr
      subst hpv
      have d0 : wr.cell? ⟨bx, 0, none⟩ = some (.slice wa wn wc) := by simp [World.cell?, hbox]
      have d1 : wr.cell? ⟨bx, 1, none⟩ = some (.slice qa lL.length qc) := by simp [World.cell?, hbox]
      rcases Nat.lt_or_ge j lL.length with h1 | h1
      · obtain rfl := hpa (by omega)
        obtain ⟨c1, c2⟩ := hpc _ hrt.puts j h1
        have hlt2 := hokL.lt (by omega) j
        have hst := (RQ.later (grown_drew (grown_refl _ _))).more (txX lL j) (txV lL j) hlt2.1 hlt2.2
        rw [store_take hokL h1] at hst
        clear hpc hpa hbox hrt RQ
        go_wp2
        go_still_tail 13, (by kernel_rfl)
        go_wp2_with (go_at_call 21; refine hst.mono ?_; rintro e v2 ⟨rfl, Q⟩)
        go_roundw
        case rel => exact ⟨j + 1, by omega, by go_num, Q⟩
        case measure => simp [intOf]; omega
      · obtain rfl : j = lL.length := by omega
        rw [List.take_length] at RQ
        obtain ⟨Rr, hT, hap⟩ := RQ.tx
        have hTF := HTF.out
        rw [HW.out] at hTF
        have hwlk := rwalk_any hrt hgr.size (by omega) (by omega) hokL hT.tx.seg.words hTF.heap
        have HRES := Lib.hid RQ.res
        have HT := Lib.hid hT
        have HRT := Lib.hid hrt
        have HAP := Lib.hid hap
        have HBX := Lib.hid hbox
        have HFR := Lib.hid hTF.free
        obtain ⟨f, ef⟩ : ∃ f, txSee ws lL = f := ⟨_, rfl⟩
        have HEF := Lib.hid ef
        rw [ef] at hwlk
        obtain ⟨m, hm⟩ : ∃ m, lL.length = m := ⟨_, rfl⟩
        have HMM := Lib.hid hm
        rw [hm] at d1 hwlk HRT HBX ⊢
        simp only [show ((0 : Nat) : Int) = 0 from rfl] at hwlk
        clear hpa hpc hrt hT hap RQ hbox hTF ef hm
        go_wp2_with (go_at_call 22; (with_reducible refine hwlk.mono ?_); rintro e w5 ⟨bv, rfl, ho5, hg5⟩; obtain ⟨bla, bc, hbv, hat5⟩ := ho5.at_; subst hbv)
        have hNN : (blks f NN).length = NN := blks_len _ _
        have HNN := Lib.hid hNN
        simp only [hNN]
        have HAT := Lib.hid hat5
        have hNs : NN ≤ 1000000 := HFR.out.2
        clear hat5 ho5 hwlk hNN
        go_loopw [11, 10] (fun i v wq => ∃ k : Nat, k ≤ NN ∧ i = .int .i64 k ∧ OwnW wq w5.heap.size v (freeN f k) ∧ w5.grownBy wq none) (fun i _ _ => NN - (intOf i).toNat)
        case atStart => exact ⟨0, Nat.zero_le _, rfl, World.ownsRow_nil _ _ _ _, grown_refl _ _⟩
        case round =>
          obtain ⟨k, hk, rfl, hown, hgq⟩ := hrel
          have hfl := freeN_len (f := f) k
          rcases Nat.lt_or_ge k NN with h1 | h1
          · obtain ⟨bb, off, rfl, hbb, hcs⟩ := (HAT.out.later hgq).cells (by rw [HNN.out]; omega)
            obtain ⟨c0, _, c2, _, _⟩ := hcs k (by rw [HNN.out]; exact h1)
            have e0 : gO (blks f NN) k = offs f k := by unfold gO; rw [blks_get f h1]; rfl
            have e2 : gU (blks f NN) k = uus (f (offs f k)) := by unfold gU; rw [blks_get f h1]; rfl
            rw [e0] at c0
            rw [e2] at c2
            obtain ⟨x, hx⟩ : ∃ x, offs f k = x := ⟨_, rfl⟩
            rw [hx] at c0 c2
            obtain ⟨u, hu⟩ : ∃ u, uus (f x) = u := ⟨_, rfl⟩
            rw [hu] at c2
            have HX := Lib.hid hx
            have HU := Lib.hid hu
            have hk1 : (k : Int) < (NN : Int) := by omega
            obtain ⟨fa, fn, fc, hfv⟩ := wv_form hown
            subst hfv
            have HOWN := Lib.hid hown
            have hsz5 := hgq.size
            clear hcs hx hu e0 e2 hown
            cases u with
            | true =>
              go_wp2
              go_roundw
              case rel => exact ⟨k + 1, by omega, by go_num, by unfold freeN; rw [HX.out, HU.out, if_pos rfl, List.append_nil]; exact HOWN.out, hgq⟩
              case measure => simp [intOf]; omega
            | false =>
              go_wp2_with (at_builtin; go_must (refine wpList_append_num rfl _ _ rfl w5.heap.size (.slice fa fn fc) (freeN f k) rfl HOWN.out x rfl (by omega) hsz5 ?_); intro v8 w8 hown8 hg8 hloc8)
              go_roundw
              case rel => exact ⟨k + 1, by omega, by go_num, by unfold freeN; rw [HX.out, HU.out]; exact hown8, grown_step hgq hg8 (fun i hi => .inl (World.ownsRow.lt HOWN.out i hi).1)⟩
              case measure => simp [intOf]; omega
          · obtain rfl : k = NN := by omega
            have hgA := grown_trans hg5 hgq
            have hres := two_held HRES.out hgA
            have hbx2 := two_held HBX.out hgA
            have e0 : wr.cell? ⟨w.heap.size, 0, none⟩ = some (.slice none 0 0) := by simp [World.cell?, hres]
            have e1 : wr.cell? ⟨w.heap.size, 1, none⟩ = some (.slice none 0 0) := by simp [World.cell?, hres]
            have f0 : wr.frozen? ⟨w.heap.size, 0, none⟩ = false := by simp [World.frozen?, hres]
            have f1 : wr.frozen? ⟨w.heap.size, 1, none⟩ = false := by simp [World.frozen?, hres]
            obtain ⟨g0, g1⟩ := two_cells hbx2
            have hs : wr.grownBy ((wr.setCell ⟨w.heap.size, 0, none⟩ (.slice wa wn wc)).setCell ⟨w.heap.size, 1, none⟩ (.slice qa m qc)).drew (some w.heap.size) := grown_drew (grown_trans (grown_set _ _ _ _) (grown_set _ _ _ _))
            obtain ⟨fa, fn, fc, hfv⟩ := wv_form hown
            subst hfv
            have hfo : OwnW ((wr.setCell ⟨w.heap.size, 0, none⟩ (.slice wa wn wc)).setCell ⟨w.heap.size, 1, none⟩ (.slice qa m qc)).drew w5.heap.size (.slice fa fn fc) (freeN f k) := World.ownsRow.kept hown hs (by
              by_cases e : (Value.slice fa fn fc).ownBlock = none
              · exact .inl e
              · refine .inr fun e2 => ?_
                have h9 := (World.ownsRow.lt hown _ e2).1
                have h8 := lt_of_block HRES.out
                have := hg5.size
                omega)
            have hend : Laid7W w n (.returned (.tuple #[.pointer (some ⟨T, 0, none⟩), .agg #[.slice wa wn wc, .slice qa m qc], .slice fa fn fc])) ((wr.setCell ⟨w.heap.size, 0, none⟩ (.slice wa wn wc)).setCell ⟨w.heap.size, 1, none⟩ (.slice qa m qc)).drew := by
              refine ⟨lL, k, HL.out, HNn.out, Bb, Db, T, M, Rr, .slice wa wn wc, .slice qa m qc, .slice fa fn fc, rfl, ?_, ?_, ?_, HAP.out, fun g e e2 => ?_⟩
              · rw [HW.out]; exact (HT.out.later hgA).other hres (Nat.le_refl _) hs
              · rw [HW.out]; exact (HRT.out.later hgA).other hres hs
              · rw [HW.out, HEF.out]; exact hfo.mono (by have := hg5.size; have := lt_of_block HRES.out; omega)
              · have h9 := (World.ownsRow.lt hown _ e).1
                have h8 := HT.out.tx.ltR e2
                have := hg5.size
                omega
            have HE := Lib.hid hend
            clear hres hbx2 hs hend hfo hown hgq
            go_wp2
            go_region
            all_goals go_wp2
            refine bodyPost_ret (v := .tuple #[.pointer (some ⟨T, 0, none⟩), .agg #[.slice wa wn wc, .slice qa m qc], .slice fa fn fc]) (by simp [results, Tryz.results6, go_sem, e0, e1]) rfl ?_
            exact HE.out
end Go.Proofs.YthhboidjibdahaaGreat
