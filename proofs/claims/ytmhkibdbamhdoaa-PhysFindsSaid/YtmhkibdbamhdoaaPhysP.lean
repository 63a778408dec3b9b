/-
  What most statements of layer 6 begin with: a formatted segment of 4480 bytes, in which blocks are laid, and then other words (laid).
  Conditions: the pieces and the pairs lie in memory.
-/
import Derived.Test.YtmhkibdbamhdoaaPhysN
namespace Go.Proofs.Ytmhkibdbamhdoaa
open Go.RowKit
set_option linter.unusedVariables false
set_option linter.unusedSimpArgs false

/-- words that are thought of, and k pairs more -/
def thinkF (ws : List Nat) (l : List (Nat × Nat)) (X V : Nat → Nat) : Nat → List (Nat × Nat)
  | 0 => l
  | k + 1 => txStore ws (thinkF ws l X V k) (X k) (V k)
theorem thinkF_ok {ws : List Nat} {l : List (Nat × Nat)} {X V : Nat → Nat} (h : TxOk ws l) (hV : ∀ i, V i < 18446744073709551616) : ∀ k, TxOk ws (thinkF ws l X V k) := by
  intro k
  induction k with
  | zero => exact h
  | succ k ih => exact ih.store _ (hV k)
theorem store_take {ws : List Nat} {l : List (Nat × Nat)} (h : TxOk ws l) {k : Nat} (hk : k < l.length) : txStore ws (l.take k) (txX l k) (txV l k) = l.take (k + 1) := by
  have hp : (txX l k, txV l k) = l[k] := by
    unfold txX txV
    rw [List.getD_eq_getElem?_getD, List.getElem?_eq_getElem hk]
    rfl
  have hmem : (txX l k, txV l k) ∈ l := by rw [hp]; exact List.getElem_mem hk
  have hs : stands ws (txX l k) := h.stand _ hmem
  have hn : txGet (l.take k) (txX l k) = none := by
    rw [txGet_none]
    intro hx
    unfold txKeys at hx
    rw [List.mem_map] at hx
    obtain ⟨p, hp1, hp2⟩ := hx
    obtain ⟨j, hj, hje⟩ := List.mem_iff_getElem.1 hp1
    have hjk : j < k := by simp at hj; omega
    rw [List.getElem_take] at hje
    refine h.apart hk hjk ?_
    rw [← hp2, ← hje]
    unfold txX
    rw [List.getD_eq_getElem?_getD, List.getElem?_eq_getElem (by omega)]
    rfl
  unfold txStore
  rw [if_pos hs, txSet_new _ hn, hp, List.take_succ_eq_append_getElem hk]
section
variable {w wr : World} {T M B D bx b6 : Nat} {wv : Value} {ws : List Nat} {l l' : List (Nat × Nat)}
/-- the plain answer's words are others -/
theorem ThMid.told {w4 : World} {pv' : Value} {l2 : List (Nat × Nat)} (h : ThMid w T M B D bx b6 wv ws l l' wr) (hg : wr.grownBy w4 none) (hr : RTx w4 w.heap.size wv pv' ws l2) (hbx : w.heap.size ≤ bx) (hne : bx ≠ b6) :
    ThMid w T M B D bx b6 wv ws l2 l' ((w4.setCell ⟨bx, 0, none⟩ wv).setCell ⟨bx, 1, none⟩ pv') := by
  obtain ⟨R, h1, h2⟩ := h.tx
  obtain ⟨pv, h3, _⟩ := h.box
  have h3' := (hg.block _ (lt_of_block h3) (by simp)).trans h3
  have hs : w4.grownBy ((w4.setCell ⟨bx, 0, none⟩ wv).setCell ⟨bx, 1, none⟩ pv') (some bx) := grown_trans (grown_set _ _ _ _) (grown_set _ _ _ _)
  refine ⟨⟨R, (h1.later hg).other h3' hbx hs, h2⟩, ⟨pv', ?_, hr.other h3' hs⟩, ?_⟩
  · rw [heap_setCell_same (heap_setCell_same h3' wv) pv']; rfl
  · have := (hg.block _ (lt_of_block h.res) (by simp)).trans h.res
    exact (hs.block _ (lt_of_block this) (by simpa using hne.symm)).trans this
/-- the program's Tx has a word more -/
theorem ThMid.more (h : ThMid w T M B D bx b6 wv ws l l' wr) (off v : Nat) (ho : off < 18446744073709551616) (hv : v < 18446744073709551616) :
    Calls Try.prog 25 #[.pointer (some ⟨T, 0, none⟩), .int .u64 off, .int .u64 v] wr fun e w' => e = .returned (.tuple #[]) ∧ ThMid w T M B D bx b6 wv ws l (txStore ws l' off v) w' := by
  obtain ⟨R, h1, h2⟩ := h.tx
  refine (txstore_any h1.tx off v ho hv).mono ?_
  rintro e w' ⟨rfl, ht⟩
  obtain ⟨R', k1, k2, k3⟩ := h1.step ht
  obtain ⟨pv, h3, h4⟩ := h.box
  refine ⟨rfl, ⟨R', k1, fun g hg => ?_⟩, ⟨pv, k2.heap h3 (h1.tx.far h3 (by decide) (by decide)), ⟨OwnW.past h1.tx k2 h4.words h2, OwnP.past h1.tx k2 h4.puts⟩⟩, k2.heap h.res (h1.tx.far h.res (by decide) (by decide))⟩
  rcases k3 with rfl | ⟨g', rfl, hg'⟩
  · exact h2 g hg
  · intro e
    injection e with e
    obtain ⟨_, cur, hb⟩ := row_block h4.words hg
    have := lt_of_block hb
    omega
end
theorem Txs.from {w W0 w1 : World} {T M : Nat} {R : Option Nat} {B D : Nat} {ws : List Nat} {l : List (Nat × Nat)} (hg : w.grownBy W0 none) (h : Txs W0 w1 T M R B D ws l) : Txs w w1 T M R B D ws l where
  tx := h.tx
  since := grown_trans hg h.since
  newT := Nat.le_trans hg.size h.newT
  newM := Nat.le_trans hg.size h.newM
  newR := fun g e => Nat.le_trans hg.size (h.newR g e)
  newB := Nat.le_trans hg.size h.newB
  newD := Nat.le_trans hg.size h.newD
theorem RTx.mono {w : World} {base base' : Nat} {wv pv : Value} {ws : List Nat} {l : List (Nat × Nat)} (h : RTx w base wv pv ws l) (hb : base' ≤ base) : RTx w base' wv pv ws l := ⟨h.words.mono hb, World.ownsRow.mono h.puts hb⟩
/-- What laid tells: L is what the plain answer has thought of. -/
def Laid0 (w : World) (X V : Nat → Nat) (m : Nat) (e : Ending) (w' : World) : Prop :=
  ∃ l N, Laid6 l N ∧ Formed w (fmt48 4480) (thinkF (fmt48 4480) l X V m) e w'
set_option maxHeartbeats 4000000 in
set_option maxRecDepth 100000 in
theorem laid6_any {w : World} {la la2 : Option Addr} {n n2 c c2 : Nat} {A B C X V : Nat → Nat} (hp : PiecesAt w la n A B C) (hc : n ≤ c) (hn : n ≤ maxLen) (hp2 : PutsAt w la2 n2 X V) (hn2 : n2 ≤ maxLen) :
    Calls Try.prog 10 #[.slice la n c, .slice la2 n2 c2] w (Laid0 w X V (min n2 10)) := by
  unfold maxLen at hn hn2
  have hfo : ∀ w, Calls Try.prog 17 #[.int .u64 4480, .slice none 0 0] w _ := fun w => formed6_nil 4480 (by decide) w
  have hg0 : w.grownBy (w.alloc (.cells #[.slice none 0 0, .slice none 0 0] 29)) none := World.grownBy_alloc _ _ _
  have hres0 : (w.alloc (.cells #[.slice none 0 0, .slice none 0 0] 29)).heap[w.heap.size]? = some (.cells #[.slice none 0 0, .slice none 0 0] 29 (0, 0)) := heap_alloc_new' _ _
  have hly := fun (w1 : World) (hg : w.grownBy w1 none) (base : Nat) (wv pv : Value) (hrt : RTx w1 base wv pv (fmt48 4480) []) (hb : base ≤ w1.heap.size) (hlt : ∀ x ∈ fmt48 4480, x < 18446744073709551616) (la' : Option Addr) (m c' : Nat) (hm : PiecesAt w1 la' m A B C) (hm20 : m ≤ 20) => rlay_any (c := c') hrt hb hlt hm hm20
  by_cases h20 : 20 < n
  · have h20' : (20 : Int) < (n : Int) := by omega
    have hc20 : (20 : Int) ≤ (c : Int) := by omega
    go_enter Try.func10, Try.ntmps10
    go_wp2_with (first | (go_at_call 17; ((with_reducible refine (hfo _).mono ?_); rintro e w1 ⟨Bb, Db, T, M, R, wv, pv, rfl, X1, hrt, hap⟩; obtain ⟨wa, wn, wc, hwv⟩ := wv_form hrt.words; subst hwv; obtain ⟨pa, pn, pc, hpv⟩ := pv_form hrt.puts; subst hpv)) | (go_at_call 23; ((with_reducible refine (hly _ (grown_trans hg0 (grown_trans X1.since (World.grownBy_alloc _ _ _))) _ _ _ (hrt.later (World.grownBy_alloc _ _ _)) (Nat.le_trans X1.since.size (World.grownBy_alloc _ _ none).size) X1.tx.seg.words _ _ _ ((hp.less (by omega)).later (grown_trans hg0 (grown_trans X1.since (World.grownBy_alloc _ _ _)))) (Nat.le_refl _)).mono ?_); rintro e w3 ⟨lL, pv3, NN, rfl, hr3, hL, hg3⟩; obtain ⟨pa3, pn3, pc3, hpv3⟩ := pv_form hr3.puts; subst hpv3; have hb3 := (hg3.block _ (lt_of_block (heap_alloc_new' _ _)) (by simp)).trans (heap_alloc_new' w1 (.cells #[.slice wa wn wc, .slice pa pn pc] 29)); obtain ⟨z0, z1⟩ := two_cells hb3; have zf0 : w3.frozen? ⟨w1.heap.size, 0, none⟩ = false := (by simp [World.frozen?, hb3]); have zf1 : w3.frozen? ⟨w1.heap.size, 1, none⟩ = false := (by simp [World.frozen?, hb3]); clear hb3)))
    have hgA := World.grownBy_alloc w1 (.cells #[.slice wa wn wc, .slice pa pn pc] 29) none
    have RA : ThMid w T M Bb Db w1.heap.size w.heap.size (.slice wa wn wc) (fmt48 4480) [] [] (w1.alloc (.cells #[.slice wa wn wc, .slice pa pn pc] 29)) :=
      ⟨⟨R, (Txs.from hg0 X1).later hgA, hap⟩, ⟨_, heap_alloc_new' _ _, (hrt.mono hg0.size).later hgA⟩, ((grown_trans X1.since hgA).block _ (lt_of_block hres0) (by simp)).trans hres0⟩
    have hsz1 : w.heap.size + 1 ≤ w1.heap.size := by have := X1.since.size; rwa [World.size_alloc] at this
    have hbxn : w.heap.size ≤ w1.heap.size := by omega
    have hbxne : w1.heap.size ≠ w.heap.size := by omega
    have R0 := RA.told hg3 (hr3.mono hg0.size) hbxn hbxne
    obtain ⟨ws, ews⟩ : ∃ ws, fmt48 4480 = ws := ⟨_, rfl⟩
    have hl6 : ws.length = 600 := by rw [← ews]; exact fmt48_len _
    have hokL : TxOk ws lL := by rw [← ews]; exact hL.ok
    rw [ews] at R0
    have HL := Lib.hid hL
    have HW := Lib.hid ews
    have hbL : lL.length ≤ 600 := by have := hokL.len; omega
    clear hg3 hr3 hrt X1 hap RA hgA hg0 hres0 hfo hly hL ews hp
    generalize w1.heap.size = bx at *
    go_loopw [8] (fun i wr => ∃ k : Nat, k ≤ min n2 10 ∧ i = .int .i64 k ∧ ThMid w T M Bb Db bx w.heap.size (.slice wa wn wc) ws (thinkF ws lL X V k) [] wr) (fun i _ => 10 - (intOf i).toNat)
    case atStart => exact ⟨0, Nat.zero_le _, rfl, R0⟩
    case round =>
      obtain ⟨k, hk, rfl, RR⟩ := hrel
      clear R0
      by_cases hlt : k < min n2 10
      · have hn0 : k < n2 := by omega
        have h40 : k < 10 := by omega
        have hgr : w.grownBy wr none := by obtain ⟨_, h1, _⟩ := RR.tx; exact h1.since
        obtain ⟨b, off, rfl, hb, hcs⟩ := (hp2.later hgr).cells (by omega)
        obtain ⟨c1, c2⟩ := hcs k hn0
        clear hcs
        have hx := (hp2.lt k).1
        have hq1 : wr.grownBy wr.drew none := grown_drew (grown_refl _ _)
        obtain ⟨pv2, hbox, hrt⟩ := RR.box
        obtain ⟨qa, qn, qc, hpv⟩ := pv_form hrt.puts
        subst hpv
        have d0 : wr.cell? ⟨bx, 0, none⟩ = some (.slice wa wn wc) := by simp [World.cell?, hbox]
        have d1 : wr.cell? ⟨bx, 1, none⟩ = some (.slice qa qn qc) := by simp [World.cell?, hbox]
        have hokF := thinkF_ok (X := X) hokL (fun i => (hp2.lt i).2) k
        have hlen : (thinkF ws lL X V k).length ≤ 1000000 := by have := hokF.len; omega
        have hrs := rtxstore_any (hrt.later hq1) (grown_trans hgr hq1).size (by omega) hlen (X k) (V k) hx
        have HQ := Lib.hid RR
        have HB := Lib.hid hbox
        clear hbox RR hrt hokF
        go_wp2
        go_still_tail 11, (by kernel_rfl)
        go_wp2_with (go_at_call 24; refine hrs.mono ?_; rintro e v4 ⟨pv', rfl, hr4, hg4⟩; obtain ⟨qa', qn', qc', hpv'⟩ := pv_form hr4.puts; subst hpv'; have hb4 := (hg4.block _ (lt_of_block HB.out) (by simp)).trans HB.out; have e0 : v4.cell? ⟨bx, 0, none⟩ = some (.slice wa wn wc) := (by simp [World.cell?, hb4]); have e1 : v4.cell? ⟨bx, 1, none⟩ = some (.slice qa qn qc) := (by simp [World.cell?, hb4]); have f0 : v4.frozen? ⟨bx, 0, none⟩ = false := (by simp [World.frozen?, hb4]); have f1 : v4.frozen? ⟨bx, 1, none⟩ = false := (by simp [World.frozen?, hb4]); clear hb4)
        go_roundw
        case rel => exact ⟨k + 1, by omega, by go_num, HQ.out.told (grown_trans hq1 hg4) hr4 hbxn hbxne⟩
        case measure => simp [intOf]; omega
      · obtain ⟨N0, hN0⟩ : ∃ N0, min n2 10 = N0 := ⟨_, rfl⟩
        rw [hN0] at hk hlt ⊢
        obtain rfl : k = N0 := by omega
        have hokF := thinkF_ok (X := X) hokL (fun i => (hp2.lt i).2) k
        obtain ⟨lF, elF⟩ : ∃ lF, thinkF ws lL X V k = lF := ⟨_, rfl⟩
        rw [elF] at RR hokF
        have hbF : lF.length ≤ 600 := by have := hokF.len; omega
        have HF := Lib.hid elF
        have HN0 := Lib.hid hN0
        have hex : (k < n2 ∧ ¬ k < 10) ∨ ¬ k < n2 := by omega
        clear elF hN0 hlt
        rcases hex with ⟨hkn, h10⟩ | hkn
        · go_wp2
          go_loopw [9] (fun i wr => ∃ j : Nat, j ≤ lF.length ∧ i = .int .i64 j ∧ ThMid w T M Bb Db bx w.heap.size (.slice wa wn wc) ws lF (lF.take j) wr) (fun i _ => lF.length - (intOf i).toNat)
          case atStart => exact ⟨0, Nat.zero_le _, rfl, by rw [List.take_zero]; exact RR⟩
          case round =>
            obtain ⟨j, hj, rfl, RQ⟩ := hrel
            clear RR
            have hgr : w.grownBy wr none := by obtain ⟨_, h1, _⟩ := RQ.tx; exact h1.since
            obtain ⟨pv2, hbox, hrt⟩ := RQ.box
            obtain ⟨qa, qc, qg, hpv, hpa, hpc⟩ := hrt.puts.addr
            subst hpv
            have d0 : wr.cell? ⟨bx, 0, none⟩ = some (.slice wa wn wc) := by simp [World.cell?, hbox]
            have d1 : wr.cell? ⟨bx, 1, none⟩ = some (.slice qa lF.length qc) := by simp [World.cell?, hbox]
            rcases Nat.lt_or_ge j lF.length with h1 | h1
            · obtain rfl := hpa (by omega)
              obtain ⟨c1, c2⟩ := hpc _ hrt.puts j h1
              have hlt2 := hokF.lt (by omega) j
              have hst := (RQ.later (grown_drew (grown_refl _ _))).more (txX lF j) (txV lF j) hlt2.1 hlt2.2
              rw [store_take hokF h1] at hst
              clear hpc hpa hbox hrt RQ
              go_wp2
              go_still_tail 13, (by kernel_rfl)
              go_wp2_with (go_at_call 25; refine hst.mono ?_; rintro e v2 ⟨rfl, Q⟩)
              go_roundw
              case rel => exact ⟨j + 1, by omega, by go_num, Q⟩
              case measure => simp [intOf]; omega
            · obtain rfl : j = lF.length := by omega
              rw [List.take_length] at RQ
              obtain ⟨Rr, hT, hap⟩ := RQ.tx
              have hres := RQ.res
              have e0 : wr.cell? ⟨w.heap.size, 0, none⟩ = some (.slice none 0 0) := by simp [World.cell?, hres]
              have e1 : wr.cell? ⟨w.heap.size, 1, none⟩ = some (.slice none 0 0) := by simp [World.cell?, hres]
              have f0 : wr.frozen? ⟨w.heap.size, 0, none⟩ = false := by simp [World.frozen?, hres]
              have f1 : wr.frozen? ⟨w.heap.size, 1, none⟩ = false := by simp [World.frozen?, hres]
              have hs : wr.grownBy ((wr.setCell ⟨w.heap.size, 0, none⟩ (.slice wa wn wc)).setCell ⟨w.heap.size, 1, none⟩ (.slice qa lF.length qc)).drew (some w.heap.size) := grown_drew (grown_trans (grown_set _ _ _ _) (grown_set _ _ _ _))
              have hend : Formed w ws lF (.returned (.tuple #[.pointer (some ⟨T, 0, none⟩), .agg #[.slice wa wn wc, .slice qa lF.length qc]])) ((wr.setCell ⟨w.heap.size, 0, none⟩ (.slice wa wn wc)).setCell ⟨w.heap.size, 1, none⟩ (.slice qa lF.length qc)).drew :=
                ⟨_, _, _, _, _, _, _, rfl, hT.other hres (Nat.le_refl _) hs, hrt.other hres hs, hap⟩
              have HE := Lib.hid hend
              obtain ⟨m, hm⟩ : ∃ m, lF.length = m := ⟨_, rfl⟩
              rw [hm] at d1 HE ⊢
              clear hres hbox RQ hT hs hend hpc hpa hrt hm
              go_wp2
              go_region
              all_goals go_wp2
              refine bodyPost_ret (v := .tuple #[.pointer (some ⟨T, 0, none⟩), .agg #[.slice wa wn wc, .slice qa m qc]]) (by simp [results, Try.results10, go_sem, e0, e1]) rfl ?_
              refine ⟨lL, NN, HL.out, ?_⟩
              rw [HN0.out, HW.out, HF.out]
              exact HE.out
        · go_wp2
          go_loopw [9] (fun i wr => ∃ j : Nat, j ≤ lF.length ∧ i = .int .i64 j ∧ ThMid w T M Bb Db bx w.heap.size (.slice wa wn wc) ws lF (lF.take j) wr) (fun i _ => lF.length - (intOf i).toNat)
          case atStart => exact ⟨0, Nat.zero_le _, rfl, by rw [List.take_zero]; exact RR⟩
          case round =>
            obtain ⟨j, hj, rfl, RQ⟩ := hrel
            clear RR
            have hgr : w.grownBy wr none := by obtain ⟨_, h1, _⟩ := RQ.tx; exact h1.since
            obtain ⟨pv2, hbox, hrt⟩ := RQ.box
            obtain ⟨qa, qc, qg, hpv, hpa, hpc⟩ := hrt.puts.addr
            subst hpv
            have d0 : wr.cell? ⟨bx, 0, none⟩ = some (.slice wa wn wc) := by simp [World.cell?, hbox]
            have d1 : wr.cell? ⟨bx, 1, none⟩ = some (.slice qa lF.length qc) := by simp [World.cell?, hbox]
            rcases Nat.lt_or_ge j lF.length with h1 | h1
            · obtain rfl := hpa (by omega)
              obtain ⟨c1, c2⟩ := hpc _ hrt.puts j h1
              have hlt2 := hokF.lt (by omega) j
              have hst := (RQ.later (grown_drew (grown_refl _ _))).more (txX lF j) (txV lF j) hlt2.1 hlt2.2
              rw [store_take hokF h1] at hst
              clear hpc hpa hbox hrt RQ
              go_wp2
              go_still_tail 13, (by kernel_rfl)
              go_wp2_with (go_at_call 25; refine hst.mono ?_; rintro e v2 ⟨rfl, Q⟩)
              go_roundw
              case rel => exact ⟨j + 1, by omega, by go_num, Q⟩
              case measure => simp [intOf]; omega
            · obtain rfl : j = lF.length := by omega
              rw [List.take_length] at RQ
              obtain ⟨Rr, hT, hap⟩ := RQ.tx
              have hres := RQ.res
              have e0 : wr.cell? ⟨w.heap.size, 0, none⟩ = some (.slice none 0 0) := by simp [World.cell?, hres]
              have e1 : wr.cell? ⟨w.heap.size, 1, none⟩ = some (.slice none 0 0) := by simp [World.cell?, hres]
              have f0 : wr.frozen? ⟨w.heap.size, 0, none⟩ = false := by simp [World.frozen?, hres]
              have f1 : wr.frozen? ⟨w.heap.size, 1, none⟩ = false := by simp [World.frozen?, hres]
              have hs : wr.grownBy ((wr.setCell ⟨w.heap.size, 0, none⟩ (.slice wa wn wc)).setCell ⟨w.heap.size, 1, none⟩ (.slice qa lF.length qc)).drew (some w.heap.size) := grown_drew (grown_trans (grown_set _ _ _ _) (grown_set _ _ _ _))
              have hend : Formed w ws lF (.returned (.tuple #[.pointer (some ⟨T, 0, none⟩), .agg #[.slice wa wn wc, .slice qa lF.length qc]])) ((wr.setCell ⟨w.heap.size, 0, none⟩ (.slice wa wn wc)).setCell ⟨w.heap.size, 1, none⟩ (.slice qa lF.length qc)).drew :=
                ⟨_, _, _, _, _, _, _, rfl, hT.other hres (Nat.le_refl _) hs, hrt.other hres hs, hap⟩
              have HE := Lib.hid hend
              obtain ⟨m, hm⟩ : ∃ m, lF.length = m := ⟨_, rfl⟩
              rw [hm] at d1 HE ⊢
              clear hres hbox RQ hT hs hend hpc hpa hrt hm
              go_wp2
              go_region
              all_goals go_wp2
              refine bodyPost_ret (v := .tuple #[.pointer (some ⟨T, 0, none⟩), .agg #[.slice wa wn wc, .slice qa m qc]]) (by simp [results, Try.results10, go_sem, e0, e1]) rfl ?_
              refine ⟨lL, NN, HL.out, ?_⟩
              rw [HN0.out, HW.out, HF.out]
              exact HE.out

  · have h20' : ¬ (20 : Int) < (n : Int) := by omega
    go_enter Try.func10, Try.ntmps10
    go_wp2_with (first | (go_at_call 17; ((with_reducible refine (hfo _).mono ?_); rintro e w1 ⟨Bb, Db, T, M, R, wv, pv, rfl, X1, hrt, hap⟩; obtain ⟨wa, wn, wc, hwv⟩ := wv_form hrt.words; subst hwv; obtain ⟨pa, pn, pc, hpv⟩ := pv_form hrt.puts; subst hpv)) | (go_at_call 23; ((with_reducible refine (hly _ (grown_trans hg0 (grown_trans X1.since (World.grownBy_alloc _ _ _))) _ _ _ (hrt.later (World.grownBy_alloc _ _ _)) (Nat.le_trans X1.since.size (World.grownBy_alloc _ _ none).size) X1.tx.seg.words _ _ _ (hp.later (grown_trans hg0 (grown_trans X1.since (World.grownBy_alloc _ _ _)))) (by omega)).mono ?_); rintro e w3 ⟨lL, pv3, NN, rfl, hr3, hL, hg3⟩; obtain ⟨pa3, pn3, pc3, hpv3⟩ := pv_form hr3.puts; subst hpv3; have hb3 := (hg3.block _ (lt_of_block (heap_alloc_new' _ _)) (by simp)).trans (heap_alloc_new' w1 (.cells #[.slice wa wn wc, .slice pa pn pc] 29)); obtain ⟨z0, z1⟩ := two_cells hb3; have zf0 : w3.frozen? ⟨w1.heap.size, 0, none⟩ = false := (by simp [World.frozen?, hb3]); have zf1 : w3.frozen? ⟨w1.heap.size, 1, none⟩ = false := (by simp [World.frozen?, hb3]); clear hb3)))
    have hgA := World.grownBy_alloc w1 (.cells #[.slice wa wn wc, .slice pa pn pc] 29) none
    have RA : ThMid w T M Bb Db w1.heap.size w.heap.size (.slice wa wn wc) (fmt48 4480) [] [] (w1.alloc (.cells #[.slice wa wn wc, .slice pa pn pc] 29)) :=
      ⟨⟨R, (Txs.from hg0 X1).later hgA, hap⟩, ⟨_, heap_alloc_new' _ _, (hrt.mono hg0.size).later hgA⟩, ((grown_trans X1.since hgA).block _ (lt_of_block hres0) (by simp)).trans hres0⟩
    have hsz1 : w.heap.size + 1 ≤ w1.heap.size := by have := X1.since.size; rwa [World.size_alloc] at this
    have hbxn : w.heap.size ≤ w1.heap.size := by omega
    have hbxne : w1.heap.size ≠ w.heap.size := by omega
    have R0 := RA.told hg3 (hr3.mono hg0.size) hbxn hbxne
    obtain ⟨ws, ews⟩ : ∃ ws, fmt48 4480 = ws := ⟨_, rfl⟩
    have hl6 : ws.length = 600 := by rw [← ews]; exact fmt48_len _
    have hokL : TxOk ws lL := by rw [← ews]; exact hL.ok
    rw [ews] at R0
    have HL := Lib.hid hL
    have HW := Lib.hid ews
    have hbL : lL.length ≤ 600 := by have := hokL.len; omega
    clear hg3 hr3 hrt X1 hap RA hgA hg0 hres0 hfo hly hL ews hp
    generalize w1.heap.size = bx at *
    go_loopw [8] (fun i wr => ∃ k : Nat, k ≤ min n2 10 ∧ i = .int .i64 k ∧ ThMid w T M Bb Db bx w.heap.size (.slice wa wn wc) ws (thinkF ws lL X V k) [] wr) (fun i _ => 10 - (intOf i).toNat)
    case atStart => exact ⟨0, Nat.zero_le _, rfl, R0⟩
    case round =>
      obtain ⟨k, hk, rfl, RR⟩ := hrel
      clear R0
      by_cases hlt : k < min n2 10
      · have hn0 : k < n2 := by omega
        have h40 : k < 10 := by omega
        have hgr : w.grownBy wr none := by obtain ⟨_, h1, _⟩ := RR.tx; exact h1.since
        obtain ⟨b, off, rfl, hb, hcs⟩ := (hp2.later hgr).cells (by omega)
        obtain ⟨c1, c2⟩ := hcs k hn0
        clear hcs
        have hx := (hp2.lt k).1
        have hq1 : wr.grownBy wr.drew none := grown_drew (grown_refl _ _)
        obtain ⟨pv2, hbox, hrt⟩ := RR.box
        obtain ⟨qa, qn, qc, hpv⟩ := pv_form hrt.puts
        subst hpv
        have d0 : wr.cell? ⟨bx, 0, none⟩ = some (.slice wa wn wc) := by simp [World.cell?, hbox]
        have d1 : wr.cell? ⟨bx, 1, none⟩ = some (.slice qa qn qc) := by simp [World.cell?, hbox]
        have hokF := thinkF_ok (X := X) hokL (fun i => (hp2.lt i).2) k
        have hlen : (thinkF ws lL X V k).length ≤ 1000000 := by have := hokF.len; omega
        have hrs := rtxstore_any (hrt.later hq1) (grown_trans hgr hq1).size (by omega) hlen (X k) (V k) hx
        have HQ := Lib.hid RR
        have HB := Lib.hid hbox
        clear hbox RR hrt hokF
        go_wp2
        go_still_tail 11, (by kernel_rfl)
        go_wp2_with (go_at_call 24; refine hrs.mono ?_; rintro e v4 ⟨pv', rfl, hr4, hg4⟩; obtain ⟨qa', qn', qc', hpv'⟩ := pv_form hr4.puts; subst hpv'; have hb4 := (hg4.block _ (lt_of_block HB.out) (by simp)).trans HB.out; have e0 : v4.cell? ⟨bx, 0, none⟩ = some (.slice wa wn wc) := (by simp [World.cell?, hb4]); have e1 : v4.cell? ⟨bx, 1, none⟩ = some (.slice qa qn qc) := (by simp [World.cell?, hb4]); have f0 : v4.frozen? ⟨bx, 0, none⟩ = false := (by simp [World.frozen?, hb4]); have f1 : v4.frozen? ⟨bx, 1, none⟩ = false := (by simp [World.frozen?, hb4]); clear hb4)
        go_roundw
        case rel => exact ⟨k + 1, by omega, by go_num, HQ.out.told (grown_trans hq1 hg4) hr4 hbxn hbxne⟩
        case measure => simp [intOf]; omega
      · obtain ⟨N0, hN0⟩ : ∃ N0, min n2 10 = N0 := ⟨_, rfl⟩
        rw [hN0] at hk hlt ⊢
        obtain rfl : k = N0 := by omega
        have hokF := thinkF_ok (X := X) hokL (fun i => (hp2.lt i).2) k
        obtain ⟨lF, elF⟩ : ∃ lF, thinkF ws lL X V k = lF := ⟨_, rfl⟩
        rw [elF] at RR hokF
        have hbF : lF.length ≤ 600 := by have := hokF.len; omega
        have HF := Lib.hid elF
        have HN0 := Lib.hid hN0
        have hex : (k < n2 ∧ ¬ k < 10) ∨ ¬ k < n2 := by omega
        clear elF hN0 hlt
        rcases hex with ⟨hkn, h10⟩ | hkn
        · go_wp2
          go_loopw [9] (fun i wr => ∃ j : Nat, j ≤ lF.length ∧ i = .int .i64 j ∧ ThMid w T M Bb Db bx w.heap.size (.slice wa wn wc) ws lF (lF.take j) wr) (fun i _ => lF.length - (intOf i).toNat)
          case atStart => exact ⟨0, Nat.zero_le _, rfl, by rw [List.take_zero]; exact RR⟩
          case round =>
            obtain ⟨j, hj, rfl, RQ⟩ := hrel
            clear RR
            have hgr : w.grownBy wr none := by obtain ⟨_, h1, _⟩ := RQ.tx; exact h1.since
            obtain ⟨pv2, hbox, hrt⟩ := RQ.box
            obtain ⟨qa, qc, qg, hpv, hpa, hpc⟩ := hrt.puts.addr
            subst hpv
            have d0 : wr.cell? ⟨bx, 0, none⟩ = some (.slice wa wn wc) := by simp [World.cell?, hbox]
            have d1 : wr.cell? ⟨bx, 1, none⟩ = some (.slice qa lF.length qc) := by simp [World.cell?, hbox]
            rcases Nat.lt_or_ge j lF.length with h1 | h1
            · obtain rfl := hpa (by omega)
              obtain ⟨c1, c2⟩ := hpc _ hrt.puts j h1
              have hlt2 := hokF.lt (by omega) j
              have hst := (RQ.later (grown_drew (grown_refl _ _))).more (txX lF j) (txV lF j) hlt2.1 hlt2.2
              rw [store_take hokF h1] at hst
              clear hpc hpa hbox hrt RQ
              go_wp2
              go_still_tail 13, (by kernel_rfl)
              go_wp2_with (go_at_call 25; refine hst.mono ?_; rintro e v2 ⟨rfl, Q⟩)
              go_roundw
              case rel => exact ⟨j + 1, by omega, by go_num, Q⟩
              case measure => simp [intOf]; omega
            · obtain rfl : j = lF.length := by omega
              rw [List.take_length] at RQ
              obtain ⟨Rr, hT, hap⟩ := RQ.tx
              have hres := RQ.res
              have e0 : wr.cell? ⟨w.heap.size, 0, none⟩ = some (.slice none 0 0) := by simp [World.cell?, hres]
              have e1 : wr.cell? ⟨w.heap.size, 1, none⟩ = some (.slice none 0 0) := by simp [World.cell?, hres]
              have f0 : wr.frozen? ⟨w.heap.size, 0, none⟩ = false := by simp [World.frozen?, hres]
              have f1 : wr.frozen? ⟨w.heap.size, 1, none⟩ = false := by simp [World.frozen?, hres]
              have hs : wr.grownBy ((wr.setCell ⟨w.heap.size, 0, none⟩ (.slice wa wn wc)).setCell ⟨w.heap.size, 1, none⟩ (.slice qa lF.length qc)).drew (some w.heap.size) := grown_drew (grown_trans (grown_set _ _ _ _) (grown_set _ _ _ _))
              have hend : Formed w ws lF (.returned (.tuple #[.pointer (some ⟨T, 0, none⟩), .agg #[.slice wa wn wc, .slice qa lF.length qc]])) ((wr.setCell ⟨w.heap.size, 0, none⟩ (.slice wa wn wc)).setCell ⟨w.heap.size, 1, none⟩ (.slice qa lF.length qc)).drew :=
                ⟨_, _, _, _, _, _, _, rfl, hT.other hres (Nat.le_refl _) hs, hrt.other hres hs, hap⟩
              have HE := Lib.hid hend
              obtain ⟨m, hm⟩ : ∃ m, lF.length = m := ⟨_, rfl⟩
              rw [hm] at d1 HE ⊢
              clear hres hbox RQ hT hs hend hpc hpa hrt hm
              go_wp2
              go_region
              all_goals go_wp2
              refine bodyPost_ret (v := .tuple #[.pointer (some ⟨T, 0, none⟩), .agg #[.slice wa wn wc, .slice qa m qc]]) (by simp [results, Try.results10, go_sem, e0, e1]) rfl ?_
              refine ⟨lL, NN, HL.out, ?_⟩
              rw [HN0.out, HW.out, HF.out]
              exact HE.out
        · go_wp2
          go_loopw [9] (fun i wr => ∃ j : Nat, j ≤ lF.length ∧ i = .int .i64 j ∧ ThMid w T M Bb Db bx w.heap.size (.slice wa wn wc) ws lF (lF.take j) wr) (fun i _ => lF.length - (intOf i).toNat)
          case atStart => exact ⟨0, Nat.zero_le _, rfl, by rw [List.take_zero]; exact RR⟩
          case round =>
            obtain ⟨j, hj, rfl, RQ⟩ := hrel
            clear RR
            have hgr : w.grownBy wr none := by obtain ⟨_, h1, _⟩ := RQ.tx; exact h1.since
            obtain ⟨pv2, hbox, hrt⟩ := RQ.box
            obtain ⟨qa, qc, qg, hpv, hpa, hpc⟩ := hrt.puts.addr
            subst hpv
            have d0 : wr.cell? ⟨bx, 0, none⟩ = some (.slice wa wn wc) := by simp [World.cell?, hbox]
            have d1 : wr.cell? ⟨bx, 1, none⟩ = some (.slice qa lF.length qc) := by simp [World.cell?, hbox]
            rcases Nat.lt_or_ge j lF.length with h1 | h1
            · obtain rfl := hpa (by omega)
              obtain ⟨c1, c2⟩ := hpc _ hrt.puts j h1
              have hlt2 := hokF.lt (by omega) j
              have hst := (RQ.later (grown_drew (grown_refl _ _))).more (txX lF j) (txV lF j) hlt2.1 hlt2.2
              rw [store_take hokF h1] at hst
              clear hpc hpa hbox hrt RQ
              go_wp2
              go_still_tail 13, (by kernel_rfl)
              go_wp2_with (go_at_call 25; refine hst.mono ?_; rintro e v2 ⟨rfl, Q⟩)
              go_roundw
              case rel => exact ⟨j + 1, by omega, by go_num, Q⟩
              case measure => simp [intOf]; omega
            · obtain rfl : j = lF.length := by omega
              rw [List.take_length] at RQ
              obtain ⟨Rr, hT, hap⟩ := RQ.tx
              have hres := RQ.res
              have e0 : wr.cell? ⟨w.heap.size, 0, none⟩ = some (.slice none 0 0) := by simp [World.cell?, hres]
              have e1 : wr.cell? ⟨w.heap.size, 1, none⟩ = some (.slice none 0 0) := by simp [World.cell?, hres]
              have f0 : wr.frozen? ⟨w.heap.size, 0, none⟩ = false := by simp [World.frozen?, hres]
              have f1 : wr.frozen? ⟨w.heap.size, 1, none⟩ = false := by simp [World.frozen?, hres]
              have hs : wr.grownBy ((wr.setCell ⟨w.heap.size, 0, none⟩ (.slice wa wn wc)).setCell ⟨w.heap.size, 1, none⟩ (.slice qa lF.length qc)).drew (some w.heap.size) := grown_drew (grown_trans (grown_set _ _ _ _) (grown_set _ _ _ _))
              have hend : Formed w ws lF (.returned (.tuple #[.pointer (some ⟨T, 0, none⟩), .agg #[.slice wa wn wc, .slice qa lF.length qc]])) ((wr.setCell ⟨w.heap.size, 0, none⟩ (.slice wa wn wc)).setCell ⟨w.heap.size, 1, none⟩ (.slice qa lF.length qc)).drew :=
                ⟨_, _, _, _, _, _, _, rfl, hT.other hres (Nat.le_refl _) hs, hrt.other hres hs, hap⟩
              have HE := Lib.hid hend
              obtain ⟨m, hm⟩ : ∃ m, lF.length = m := ⟨_, rfl⟩
              rw [hm] at d1 HE ⊢
              clear hres hbox RQ hT hs hend hpc hpa hrt hm
              go_wp2
              go_region
              all_goals go_wp2
              refine bodyPost_ret (v := .tuple #[.pointer (some ⟨T, 0, none⟩), .agg #[.slice wa wn wc, .slice qa m qc]]) (by simp [results, Try.results10, go_sem, e0, e1]) rfl ?_
              refine ⟨lL, NN, HL.out, ?_⟩
              rw [HN0.out, HW.out, HF.out]
              exact HE.out

end Go.Proofs.Ytmhkibdbamhdoaa
