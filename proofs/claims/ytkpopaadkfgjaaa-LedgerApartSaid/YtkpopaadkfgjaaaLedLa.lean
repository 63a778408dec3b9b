/-
  What the statements of layer 9 begin with: a formatted segment of 4800 bytes, in which blocks are laid, and where these are (laid).
  Conditions: the pieces lie in memory.
-/
import Derived.Test.YtkpopaadkfgjaaaLedJ
import Derived.Test.YtkpopaadkfgjaaaLedL
import Derived.Test.YtkpopaadkfgjaaaLTx
import Derived.Test.YtkpopaadkfgjaaaTreeN
import Derived.Test.YtkpopaadkfgjaaaTreeSa
import Derived.Test.YtkpopaadkfgjaaaTreeC
import Derived.Test.YtkpopaadkfgjaaaPhysH
import Derived.Test.YtkpopaadkfgjaaaPhysP
namespace Go.Proofs.Ytkpopaadkfgjaaa
open Go.RowKit
set_option linter.unusedVariables false
set_option linter.unusedSimpArgs false

/-- so many blocks' offsets -/
def offL (f : Nat → Nat) : Nat → List Nat
  | 0 => []
  | k + 1 => offL f k ++ [offs f k]
theorem offL_len (f : Nat → Nat) : ∀ k : Nat, (offL f k).length = k
  | 0 => rfl
  | k + 1 => by unfold offL; rw [List.length_append, offL_len f k]; rfl
theorem offL_mem {f : Nat → Nat} {x : Nat} : ∀ {k : Nat}, x ∈ offL f k ↔ ∃ j, j < k ∧ x = offs f j
  | 0 => by simp [offL]
  | k + 1 => by
    unfold offL
    rw [List.mem_append, offL_mem]
    constructor
    · rintro (⟨j, h1, h2⟩ | h)
      · exact ⟨j, by omega, h2⟩
      · exact ⟨k, by omega, by simpa using h⟩
    · rintro ⟨j, h1, h2⟩
      rcases Nat.lt_succ_iff_lt_or_eq.1 h1 with h4 | rfl
      · exact .inl ⟨j, h4, h2⟩
      · exact .inr (by simp [h2])
/-- .. of blocks that are laid -/
theorem Laid7.grid {l : List (Nat × Nat)} {N : Nat} (h : Laid7 l N) : Grid (offL (txSee (fmt48 4800) l) N) ∧ 0 < N := by
  have hg : ∀ k, k < N → bkP (txSee (fmt48 4800) l) (offs (txSee (fmt48 4800) l) k) := fun k hk => (h.walks.lt k hk).2
  refine ⟨⟨fun x hx => ?_, fun x hx y hy hxy => ?_⟩, ?_⟩
  · obtain ⟨j, h1, h2⟩ := offL_mem.1 hx
    have h3 := bk_ge (hg j h1)
    have h4 := offs_step hg h1 (Nat.le_refl N)
    rw [h.ends] at h4
    subst h2
    omega
  · obtain ⟨j, h1, h2⟩ := offL_mem.1 hx
    obtain ⟨k, h3, h4⟩ := offL_mem.1 hy
    subst h2 h4
    rcases Nat.lt_trichotomy j k with e | e | e
    · exact .inl (offs_step hg e (by omega)).2
    · subst e; exact absurd rfl hxy
    · exact .inr (offs_step hg e (by omega)).2
  · obtain ⟨k, h1, _⟩ := h.free
    omega
/-- What laid tells. -/
def Laid9W (A B C : Nat → Nat) (w : World) (n : Nat) (e : Ending) (w' : World) : Prop :=
  ∃ l N, Laid7 l N ∧ (N ≤ n + 1 ∧ N ≤ 21 ∧ (n ≤ 6 → N = n + 1)) ∧ l = layZ A B C (min n 20) ∧ ∃ B D T M R fv, e = .returned (.tuple #[.pointer (some ⟨T, 0, none⟩), fv]) ∧ Txs w w' T M R B D (fmt48 4800) l ∧ OwnW w' w.heap.size fv (offL (txSee (fmt48 4800) l) N) ∧ ∀ g, fv.ownBlock = some g → R ≠ some g
structure Laid9F (ws : List Nat) (l : List (Nat × Nat)) (N : Nat) : Prop where
  heap : Heap ws l (blks (txSee ws l) N) 0
  few : N ≤ 1000000
theorem laid9_facts {l : List (Nat × Nat)} {N : Nat} (h : Laid7 l N) : Laid9F (fmt48 4800) l N := by
  have hN := walks_small (ws := fmt48 4800) (by rw [fmt48_len]; decide) h.chk h.walks
  refine ⟨⟨.inr ⟨h.chk, N, true, h.walks, ?_, ?_⟩, by rw [blks_len]; exact hN⟩, hN⟩
  · unfold wkL; rw [if_pos rfl]
  · unfold wkE; rw [if_pos rfl]
set_option maxHeartbeats 8000000 in
set_option maxRecDepth 100000 in
theorem laid9_any {w : World} {la : Option Addr} {n c : Nat} {A B C : Nat → Nat} (hp : PiecesAt w la n A B C) (hc : n ≤ c) (hn : n ≤ maxLen) :
    Calls Try.prog 12 #[.slice la n c] w (Laid9W A B C w n) := by
  unfold maxLen at hn
  have hfo : ∀ w, Calls Try.prog 9 #[.int .u64 4800, .slice none 0 0] w _ := fun w => formed9_nil 4800 (by decide) w
  have hly := fun (w1 : World) (hg : w.grownBy w1 none) (base : Nat) (wv pv : Value) (hrt : RTx w1 base wv pv (fmt48 4800) []) (hb : base ≤ w1.heap.size) (hlt : ∀ x ∈ fmt48 4800, x < 18446744073709551616) (la' : Option Addr) (m c' : Nat) (hm : PiecesAt w1 la' m A B C) (hm20 : m ≤ 20) => rlay7_more (c := c') hrt hb hlt hm hm20
  by_cases h20 : 20 < n
  · have h20' : (20 : Int) < (n : Int) := by omega
    have hc20 : (20 : Int) ≤ (c : Int) := by omega
    go_enter Try.func12, Try.ntmps12
    go_wp2_with (first | (go_at_call 9; go_must ((with_reducible refine (hfo _).mono ?_); rintro e w1 ⟨Bb, Db, T, M, R, wv, pv, rfl, X1, hrt, hap⟩; obtain ⟨wa, wn, wc, hwv⟩ := wv_form hrt.words; subst hwv; obtain ⟨pa, pn, pc, hpv⟩ := pv_form hrt.puts; subst hpv)) | (go_at_call 31; go_must ((with_reducible refine (hly _ (grown_trans X1.since (World.grownBy_alloc _ _ _)) _ _ _ (hrt.later (World.grownBy_alloc _ _ _)) (Nat.le_trans X1.since.size (World.grownBy_alloc _ _ none).size) X1.tx.seg.words _ _ _ ((hp.less (by omega)).later (grown_trans X1.since (World.grownBy_alloc _ _ _))) (Nat.le_refl _)).mono ?_); rintro e w3 ⟨lL, pv3, NN, rfl, hr3, hL, hg3, hNn⟩; obtain ⟨pa3, pn3, pc3, hpv3⟩ := pv_form hr3.puts; subst hpv3; have hb3 := (hg3.block _ (lt_of_block (heap_alloc_new' _ _)) (by simp)).trans (heap_alloc_new' w1 (.cells #[.slice wa wn wc, .slice pa pn pc] 27)); obtain ⟨z0, z1⟩ := two_cells hb3; have zf0 : w3.frozen? ⟨w1.heap.size, 0, none⟩ = false := (by simp [World.frozen?, hb3]); have zf1 : w3.frozen? ⟨w1.heap.size, 1, none⟩ = false := (by simp [World.frozen?, hb3]); clear hb3)))
    have hgA := World.grownBy_alloc w1 (.cells #[.slice wa wn wc, .slice pa pn pc] 27) none
    have RA : Duo w T M Bb Db w1.heap.size (.slice wa wn wc) (fmt48 4800) [] [] (w1.alloc (.cells #[.slice wa wn wc, .slice pa pn pc] 27)) :=
      ⟨⟨R, X1.later hgA, hap⟩, ⟨_, heap_alloc_new' _ _, hrt.later hgA⟩⟩
    have hbxn : w.heap.size ≤ w1.heap.size := X1.since.size
    have R0 := RA.told hg3 hr3 hbxn
    obtain ⟨ws, ews⟩ : ∃ ws, fmt48 4800 = ws := ⟨_, rfl⟩
    have hl6 : ws.length = 600 := by rw [← ews]; exact fmt48_len _
    have hokL : TxOk ws lL := by rw [← ews]; exact hL.ok
    rw [ews] at R0
    have HL := Lib.hid hL
    have HW := Lib.hid ews
    have hbL : lL.length ≤ 600 := by have := hokL.len; omega
    have HTF := Lib.hid (laid9_facts hL)
    have HLZ : Hid (lL = layZ A B C (min n 20)) := Lib.hid (by rw [Nat.min_eq_right (by omega)]; exact hNn.2.2)
    have HNn := Lib.hid (show NN ≤ n + 1 ∧ NN ≤ 21 ∧ (n ≤ 6 → NN = n + 1) by omega)
    clear hNn hg3 hr3 hrt X1 hap RA hgA hfo hly hL ews hp
    generalize w1.heap.size = bx at *
    go_loopw [6] (fun i wr => ∃ j : Nat, j ≤ lL.length ∧ i = .int .i64 j ∧ Duo w T M Bb Db bx (.slice wa wn wc) ws lL (lL.take j) wr) (fun i _ => lL.length - (intOf i).toNat)
    case atStart => exact ⟨0, Nat.zero_le _, rfl, by rw [List.take_zero]; exact R0⟩
    case round =>
      obtain ⟨j, hj, rfl, RQ⟩ := hrel
      clear R0
      have hgr : w.grownBy wr none := RQ.since
      obtain ⟨pv2, hbox, hrt⟩ := RQ.box
      obtain ⟨qa, qc, qg, hpv, hpa, hpc⟩ := hrt.puts.addr
      subst hpv
      have d0 : wr.cell? ⟨bx, 0, none⟩ = some (.slice wa wn wc) := by simp [World.cell?, hbox]
      have d1 : wr.cell? ⟨bx, 1, none⟩ = some (.slice qa lL.length qc) := by simp [World.cell?, hbox]
      rcases Nat.lt_or_ge j lL.length with h1 | h1
      · obtain rfl := hpa (by omega)
        obtain ⟨c1, c2⟩ := hpc _ hrt.puts j h1
        have hlt2 := hokL.lt (by omega) j
        have hst := (RQ.later (grown_drew (grown_refl _ _))).store (txX lL j) (txV lL j) hlt2.1 hlt2.2
        rw [store_take hokL h1] at hst
        clear hpc hpa hbox hrt RQ
        go_wp2
        go_still_tail 13, (by kernel_rfl)
        go_wp2_with (go_at_call 26; refine hst.mono ?_; rintro e v2 ⟨rfl, Q⟩)
        go_roundw
        case rel => exact ⟨j + 1, by omega, by go_num, Q⟩
        case measure => simp [intOf]; omega
      · obtain rfl : j = lL.length := by omega
        rw [List.take_length] at RQ
        obtain ⟨Rr, hT, hap⟩ := RQ.tx
        have hTF := HTF.out
        rw [HW.out] at hTF
        have hwlk := rwalk_any hrt hgr.size (by omega) (by omega) hokL hT.tx.seg.words hTF.heap
        have HT := Lib.hid hT
        have HAP := Lib.hid hap
        have hNs : NN ≤ 1000000 := hTF.few
        obtain ⟨f, ef⟩ : ∃ f, txSee ws lL = f := ⟨_, rfl⟩
        have HEF := Lib.hid ef
        rw [ef] at hwlk
        obtain ⟨m, hm⟩ : ∃ m, lL.length = m := ⟨_, rfl⟩
        rw [hm] at d1 hwlk ⊢
        simp only [show ((0 : Nat) : Int) = 0 from rfl] at hwlk
        clear hpa hpc hrt hT hap RQ hbox hTF ef hm
        go_wp2_with (go_at_call 32; (with_reducible refine hwlk.mono ?_); rintro e w5 ⟨bv, rfl, ho5, hg5⟩; obtain ⟨bla, bc, hbv, hat5⟩ := ho5.at_; subst hbv)
        have hNN : (blks f NN).length = NN := blks_len _ _
        have HNN := Lib.hid hNN
        simp only [hNN]
        have HAT := Lib.hid hat5
        clear hat5 ho5 hwlk hNN
        go_loopw [10, 9] (fun i v wq => ∃ k : Nat, k ≤ NN ∧ i = .int .i64 k ∧ OwnW wq w5.heap.size v (offL f k) ∧ w5.grownBy wq none) (fun i _ _ => NN - (intOf i).toNat)
        case atStart => exact ⟨0, Nat.zero_le _, rfl, World.ownsRow_nil _ _ _ _, grown_refl _ _⟩
        case round =>
          obtain ⟨k, hk, rfl, hown, hgq⟩ := hrel
          have hfl := offL_len f k
          rcases Nat.lt_or_ge k NN with h1 | h1
          · obtain ⟨bb, off, rfl, hbb, hcs⟩ := (HAT.out.later hgq).cells (by rw [HNN.out]; omega)
            obtain ⟨c0, _, _, _, _⟩ := hcs k (by rw [HNN.out]; exact h1)
            have e0 : gO (blks f NN) k = offs f k := by unfold gO; rw [blks_get f h1]; rfl
            rw [e0] at c0
            obtain ⟨x, hx⟩ : ∃ x, offs f k = x := ⟨_, rfl⟩
            rw [hx] at c0
            have HX := Lib.hid hx
            have hk1 : (k : Int) < (NN : Int) := by omega
            have HOWN := Lib.hid hown
            have hsz5 := hgq.size
            have hfle : (offL f k).length ≤ 1000000 := by omega
            clear hcs hx e0 hown hfl
            go_wp2_with (at_builtin; go_must (refine wpList_append_num rfl _ _ rfl w5.heap.size _ (offL f k) rfl HOWN.out x rfl (by omega) hsz5 ?_); intro v8 w8 hown8 hg8 hloc8)
            go_roundw
            case rel => exact ⟨k + 1, by omega, by go_num, by unfold offL; rw [HX.out]; exact hown8, grown_step hgq hg8 (fun i hi => .inl (World.ownsRow.lt HOWN.out i hi).1)⟩
            case measure => simp [intOf]; omega
          · obtain rfl : k = NN := by omega
            have hgA := grown_trans hg5 hgq
            obtain ⟨fa, fn, fc, hfv⟩ := wv_form hown
            subst hfv
            have hend : Laid9W A B C w n (.returned (.tuple #[.pointer (some ⟨T, 0, none⟩), .slice fa fn fc])) wr := by
              refine ⟨lL, k, HL.out, HNn.out, HLZ.out, Bb, Db, T, M, Rr, .slice fa fn fc, rfl, ?_, ?_, fun g e e2 => ?_⟩
              · rw [HW.out]; exact HT.out.later hgA
              · rw [HW.out, HEF.out]; exact hown.mono (by have := hg5.size; have := hgr.size; omega)
              · have h9 := (World.ownsRow.lt hown _ e).1
                have h8 := HT.out.tx.ltR e2
                have := hg5.size
                omega
            have HE := Lib.hid hend
            clear hend hown hgq
            go_wp2
            refine bodyPost_ret (v := .tuple #[.pointer (some ⟨T, 0, none⟩), .slice fa fn fc]) (by simp [results, Try.results12, go_sem]) rfl ?_
            exact HE.out
  · have h20' : ¬ (20 : Int) < (n : Int) := by omega
    go_enter Try.func12, Try.ntmps12
    go_wp2_with (first | (go_at_call 9; go_must ((with_reducible refine (hfo _).mono ?_); rintro e w1 ⟨Bb, Db, T, M, R, wv, pv, rfl, X1, hrt, hap⟩; obtain ⟨wa, wn, wc, hwv⟩ := wv_form hrt.words; subst hwv; obtain ⟨pa, pn, pc, hpv⟩ := pv_form hrt.puts; subst hpv)) | (go_at_call 31; go_must ((with_reducible refine (hly _ (grown_trans X1.since (World.grownBy_alloc _ _ _)) _ _ _ (hrt.later (World.grownBy_alloc _ _ _)) (Nat.le_trans X1.since.size (World.grownBy_alloc _ _ none).size) X1.tx.seg.words _ _ _ (hp.later (grown_trans X1.since (World.grownBy_alloc _ _ _))) (by omega)).mono ?_); rintro e w3 ⟨lL, pv3, NN, rfl, hr3, hL, hg3, hNn⟩; obtain ⟨pa3, pn3, pc3, hpv3⟩ := pv_form hr3.puts; subst hpv3; have hb3 := (hg3.block _ (lt_of_block (heap_alloc_new' _ _)) (by simp)).trans (heap_alloc_new' w1 (.cells #[.slice wa wn wc, .slice pa pn pc] 27)); obtain ⟨z0, z1⟩ := two_cells hb3; have zf0 : w3.frozen? ⟨w1.heap.size, 0, none⟩ = false := (by simp [World.frozen?, hb3]); have zf1 : w3.frozen? ⟨w1.heap.size, 1, none⟩ = false := (by simp [World.frozen?, hb3]); clear hb3)))
    have hgA := World.grownBy_alloc w1 (.cells #[.slice wa wn wc, .slice pa pn pc] 27) none
    have RA : Duo w T M Bb Db w1.heap.size (.slice wa wn wc) (fmt48 4800) [] [] (w1.alloc (.cells #[.slice wa wn wc, .slice pa pn pc] 27)) :=
      ⟨⟨R, X1.later hgA, hap⟩, ⟨_, heap_alloc_new' _ _, hrt.later hgA⟩⟩
    have hbxn : w.heap.size ≤ w1.heap.size := X1.since.size
    have R0 := RA.told hg3 hr3 hbxn
    obtain ⟨ws, ews⟩ : ∃ ws, fmt48 4800 = ws := ⟨_, rfl⟩
    have hl6 : ws.length = 600 := by rw [← ews]; exact fmt48_len _
    have hokL : TxOk ws lL := by rw [← ews]; exact hL.ok
    rw [ews] at R0
    have HL := Lib.hid hL
    have HW := Lib.hid ews
    have hbL : lL.length ≤ 600 := by have := hokL.len; omega
    have HTF := Lib.hid (laid9_facts hL)
    have HLZ : Hid (lL = layZ A B C (min n 20)) := Lib.hid (by rw [Nat.min_eq_left (by omega)]; exact hNn.2.2)
    have HNn := Lib.hid (show NN ≤ n + 1 ∧ NN ≤ 21 ∧ (n ≤ 6 → NN = n + 1) by omega)
    clear hNn hg3 hr3 hrt X1 hap RA hgA hfo hly hL ews hp
    generalize w1.heap.size = bx at *
    go_loopw [6] (fun i wr => ∃ j : Nat, j ≤ lL.length ∧ i = .int .i64 j ∧ Duo w T M Bb Db bx (.slice wa wn wc) ws lL (lL.take j) wr) (fun i _ => lL.length - (intOf i).toNat)
    case atStart => exact ⟨0, Nat.zero_le _, rfl, by rw [List.take_zero]; exact R0⟩
    case round =>
      obtain ⟨j, hj, rfl, RQ⟩ := hrel
      clear R0
      have hgr : w.grownBy wr none := RQ.since
      obtain ⟨pv2, hbox, hrt⟩ := RQ.box
      obtain ⟨qa, qc, qg, hpv, hpa, hpc⟩ := hrt.puts.addr
      subst hpv
      have d0 : wr.cell? ⟨bx, 0, none⟩ = some (.slice wa wn wc) := by simp [World.cell?, hbox]
      have d1 : wr.cell? ⟨bx, 1, none⟩ = some (.slice qa lL.length qc) := by simp [World.cell?, hbox]
      rcases Nat.lt_or_ge j lL.length with h1 | h1
      · obtain rfl := hpa (by omega)
        obtain ⟨c1, c2⟩ := hpc _ hrt.puts j h1
        have hlt2 := hokL.lt (by omega) j
        have hst := (RQ.later (grown_drew (grown_refl _ _))).store (txX lL j) (txV lL j) hlt2.1 hlt2.2
        rw [store_take hokL h1] at hst
        clear hpc hpa hbox hrt RQ
        go_wp2
        go_still_tail 13, (by kernel_rfl)
        go_wp2_with (go_at_call 26; refine hst.mono ?_; rintro e v2 ⟨rfl, Q⟩)
        go_roundw
        case rel => exact ⟨j + 1, by omega, by go_num, Q⟩
        case measure => simp [intOf]; omega
      · obtain rfl : j = lL.length := by omega
        rw [List.take_length] at RQ
        obtain ⟨Rr, hT, hap⟩ := RQ.tx
        have hTF := HTF.out
        rw [HW.out] at hTF
        have hwlk := rwalk_any hrt hgr.size (by omega) (by omega) hokL hT.tx.seg.words hTF.heap
        have HT := Lib.hid hT
        have HAP := Lib.hid hap
        have hNs : NN ≤ 1000000 := hTF.few
        obtain ⟨f, ef⟩ : ∃ f, txSee ws lL = f := ⟨_, rfl⟩
        have HEF := Lib.hid ef
        rw [ef] at hwlk
        obtain ⟨m, hm⟩ : ∃ m, lL.length = m := ⟨_, rfl⟩
        rw [hm] at d1 hwlk ⊢
        simp only [show ((0 : Nat) : Int) = 0 from rfl] at hwlk
        clear hpa hpc hrt hT hap RQ hbox hTF ef hm
        go_wp2_with (go_at_call 32; (with_reducible refine hwlk.mono ?_); rintro e w5 ⟨bv, rfl, ho5, hg5⟩; obtain ⟨bla, bc, hbv, hat5⟩ := ho5.at_; subst hbv)
        have hNN : (blks f NN).length = NN := blks_len _ _
        have HNN := Lib.hid hNN
        simp only [hNN]
        have HAT := Lib.hid hat5
        clear hat5 ho5 hwlk hNN
        go_loopw [10, 9] (fun i v wq => ∃ k : Nat, k ≤ NN ∧ i = .int .i64 k ∧ OwnW wq w5.heap.size v (offL f k) ∧ w5.grownBy wq none) (fun i _ _ => NN - (intOf i).toNat)
        case atStart => exact ⟨0, Nat.zero_le _, rfl, World.ownsRow_nil _ _ _ _, grown_refl _ _⟩
        case round =>
          obtain ⟨k, hk, rfl, hown, hgq⟩ := hrel
          have hfl := offL_len f k
          rcases Nat.lt_or_ge k NN with h1 | h1
          · obtain ⟨bb, off, rfl, hbb, hcs⟩ := (HAT.out.later hgq).cells (by rw [HNN.out]; omega)
            obtain ⟨c0, _, _, _, _⟩ := hcs k (by rw [HNN.out]; exact h1)
            have e0 : gO (blks f NN) k = offs f k := by unfold gO; rw [blks_get f h1]; rfl
            rw [e0] at c0
            obtain ⟨x, hx⟩ : ∃ x, offs f k = x := ⟨_, rfl⟩
            rw [hx] at c0
            have HX := Lib.hid hx
            have hk1 : (k : Int) < (NN : Int) := by omega
            have HOWN := Lib.hid hown
            have hsz5 := hgq.size
            have hfle : (offL f k).length ≤ 1000000 := by omega
            clear hcs hx e0 hown hfl
            go_wp2_with (at_builtin; go_must (refine wpList_append_num rfl _ _ rfl w5.heap.size _ (offL f k) rfl HOWN.out x rfl (by omega) hsz5 ?_); intro v8 w8 hown8 hg8 hloc8)
            go_roundw
            case rel => exact ⟨k + 1, by omega, by go_num, by unfold offL; rw [HX.out]; exact hown8, grown_step hgq hg8 (fun i hi => .inl (World.ownsRow.lt HOWN.out i hi).1)⟩
            case measure => simp [intOf]; omega
          · obtain rfl : k = NN := by omega
            have hgA := grown_trans hg5 hgq
            obtain ⟨fa, fn, fc, hfv⟩ := wv_form hown
            subst hfv
            have hend : Laid9W A B C w n (.returned (.tuple #[.pointer (some ⟨T, 0, none⟩), .slice fa fn fc])) wr := by
              refine ⟨lL, k, HL.out, HNn.out, HLZ.out, Bb, Db, T, M, Rr, .slice fa fn fc, rfl, ?_, ?_, fun g e e2 => ?_⟩
              · rw [HW.out]; exact HT.out.later hgA
              · rw [HW.out, HEF.out]; exact hown.mono (by have := hg5.size; have := hgr.size; omega)
              · have h9 := (World.ownsRow.lt hown _ e).1
                have h8 := HT.out.tx.ltR e2
                have := hg5.size
                omega
            have HE := Lib.hid hend
            clear hend hown hgq
            go_wp2
            refine bodyPost_ret (v := .tuple #[.pointer (some ⟨T, 0, none⟩), .slice fa fn fc]) (by simp [results, Try.results12, go_sem]) rfl ?_
            exact HE.out
end Go.Proofs.Ytkpopaadkfgjaaa
