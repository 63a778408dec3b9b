/-
  What the statements of layer 10 begin with: a formatted segment of 4800 bytes (formed).
  Conditions: the pairs lie in memory; the numbers are of 64 bits.
-/
import Derived.Test.YtoamlkljfmgomaaGreatLTag
namespace Go.Proofs.YtoamlkljfmgomaaGreat
open Go.RowKit
set_option linter.unusedVariables false
set_option linter.unusedSimpArgs false

set_option maxHeartbeats 2000000 in
set_option maxRecDepth 100000 in
theorem formed10_any {w : World} {la2 : Option Addr} {n n2 c2 : Nat} {X2 V2 : Nat → Nat} (hn : n < 18446744073709551616) (hp2 : PutsAt w la2 n2 X2 V2) (hn2 : n2 ≤ maxLen) :
    Calls Tryz.prog 16 #[.int .u64 n, .slice la2 n2 c2] w (Formed w (fmt48 n) (thinkL (fmt48 n) X2 V2 (min n2 60))) := by
  have hfm := fun (w : World) (B D : Nat) (hs : IsSeg w B D (List.replicate 600 0)) => format_any hs n hn
  have hrf := fun w => rformat48 n hn w
  have hten := fmt48_len n
  unfold fmt48 at hten hrf ⊢
  obtain ⟨ws, hws⟩ : ∃ ws, fmt (List.replicate 600 0) n = ws := ⟨_, rfl⟩
  obtain ⟨fc, hfc⟩ : ∃ fc, fmtE (List.replicate 600 0) n = fc := ⟨_, rfl⟩
  rw [hws] at hfm hten hrf ⊢
  rw [hfc] at hfm
  unfold maxLen at hn2
  have hg0 : w.grownBy (w.alloc (.cells #[.slice none 0 0, .slice none 0 0] 54)) none := World.grownBy_alloc _ _ _
  have hres0 : (w.alloc (.cells #[.slice none 0 0, .slice none 0 0] 54)).heap[w.heap.size]? = some (.cells #[.slice none 0 0, .slice none 0 0] 54 (0, 0)) := heap_alloc_new' _ _
  clear hws hfc
  go_enter Tryz.func16, Tryz.ntmps16
  go_wp2_with (first | (go_at_call 44; ((with_reducible refine (new48 _).mono ?_); rintro e w1 ⟨rfl, hg1, hs1⟩; simp only [World.size_alloc] at hs1)) | (go_at_call 45; ((with_reducible refine (hfm _ _ _ hs1).mono ?_); rintro e w2 ⟨rfl, hg2, hs2⟩)) | (go_at_call 46; ((with_reducible refine (hrf _).mono ?_); rintro e w3 ⟨wv, kk, rfl, hg3, ho3⟩; have hs3 := hs2.later hg3; obtain ⟨wa, wn, wc, hwv⟩ := wv_form ho3; subst hwv)) | (go_at_call 47; ((with_reducible refine (txnew_yes hs3).mono ?_); rintro e w4 ⟨rfl, hg4, ht4⟩)))
  have hsz1 : w.heap.size + 1 ≤ w1.heap.size := by have := hg1.size; rwa [World.size_alloc] at this
  have hsz2 : w1.heap.size ≤ w2.heap.size := hg2.size
  have hsz3 : w2.heap.size ≤ w3.heap.size := hg3.size
  have hsz4 : w3.heap.size ≤ w4.heap.size := hg4.size
  have hbxn : w.heap.size ≤ w4.heap.size := by omega
  have hbxne : w4.heap.size ≠ w.heap.size := by omega
  have hg5 : w4.grownBy (w4.alloc (.cells #[.slice wa wn wc, .slice none 0 0] 54)) none := World.grownBy_alloc _ _ _
  have R0 : ThRel w (w3.heap.size + 1) w3.heap.size (w.heap.size + 1 + 1) (w.heap.size + 1) w4.heap.size w.heap.size (.slice wa wn wc) ws (thinkL ws X2 V2 0) (w4.alloc (.cells #[.slice wa wn wc, .slice none 0 0] 54)) := by
    have hgD : w1.grownBy w3 (some (w.heap.size + 1)) := grown_trans hg2 (grown_any hg3 _)
    have hsince : w.grownBy w3 none := by
      refine grown_step (grown_trans hg0 hg1) hgD (fun i hi => .inl ?_)
      injection hi with hi
      omega
    refine ⟨⟨none, ⟨ht4.later hg5, grown_trans (grown_trans hsince hg4) hg5, by omega, by omega, (fun g hg => by cases hg), by omega, by omega⟩, fun g _ hg => by cases hg⟩, ⟨_, heap_alloc_new' _ _, ⟨(((ho3.mono (by omega)).later hg4).later hg5), World.ownsRow_nil _ _ _ _⟩⟩, ?_⟩
    have h1 := (hg1.block _ (lt_of_block hres0) (by simp)).trans hres0
    have h2 := (hgD.block _ (lt_of_block h1) (by intro e; injection e with e; omega)).trans h1
    have h3 := (hg4.block _ (lt_of_block h2) (by simp)).trans h2
    exact (hg5.block _ (lt_of_block h3) (by simp)).trans h3
  clear hs1 hs2 hs3 ho3 ht4 hg1 hg2 hg3 hg4 hg5 hfm hrf hsz1 hsz2 hsz3 hsz4
  generalize w4.heap.size = bx at *
  generalize w3.heap.size + 1 = T at *
  generalize w3.heap.size = M at *
  go_loopw [11] (fun i wr => ∃ k : Nat, k ≤ min n2 60 ∧ i = .int .i64 k ∧ ThRel w T M (w.heap.size + 1 + 1) (w.heap.size + 1) bx w.heap.size (.slice wa wn wc) ws (thinkL ws X2 V2 k) wr) (fun i _ => 60 - (intOf i).toNat)
  case atStart => exact ⟨0, Nat.zero_le _, rfl, R0⟩
  case round =>
    obtain ⟨k, hk, rfl, R⟩ := hrel
    clear R0
    by_cases hlt : k < min n2 60
    · have hn0 : k < n2 := by omega
      have h40 : k < 60 := by omega
      have hgr : w.grownBy wr none := by obtain ⟨_, h1, _⟩ := R.tx; exact h1.since
      obtain ⟨b, off, rfl, hb, hcs⟩ := (hp2.later hgr).cells (by omega)
      obtain ⟨c1, c2⟩ := hcs k hn0
      clear hcs
      have hx := (hp2.lt k).1
      have hv := (hp2.lt k).2
      have hq1 : wr.grownBy wr.drew none := grown_drew (grown_refl _ _)
      have hst := (R.later hq1).store (X2 k) (V2 k) hx hv
      go_wp2
      go_still_tail 11, (by kernel_rfl)
      go_wp2_with (go_at_call 17; refine hst.mono ?_; rintro e v2 ⟨rfl, Q⟩)
      have hgr2 : w.grownBy v2 none := by obtain ⟨_, h1, _⟩ := Q.tx; exact h1.since
      have hq2 : v2.grownBy v2.drew none := grown_drew (grown_refl _ _)
      obtain ⟨pv, hbox, hrt⟩ := Q.box
      obtain ⟨pa, pn, pc, hpv⟩ := pv_form hrt.puts
      subst hpv
      obtain ⟨b', off', hbo, hb', hcs⟩ := (hp2.later hgr2).cells (by omega)
      injection hbo with hbo
      injection hbo with hbo1 hbo2
      subst hbo1
      subst hbo2
      clear c1 c2
      obtain ⟨c1, c2⟩ := hcs k hn0
      clear hcs
      have d0 : v2.cell? ⟨bx, 0, none⟩ = some (.slice wa wn wc) := by simp [World.cell?, hbox]
      have d1 : v2.cell? ⟨bx, 1, none⟩ = some (.slice pa pn pc) := by simp [World.cell?, hbox]
      have hlen : (thinkL ws X2 V2 k).length ≤ 1000000 := by
        have := (thinkL_ok (ws := ws) (X := X2) (fun i => (hp2.lt i).2) k).len
        omega
      have hrs := rtxstore_any (hrt.later hq2) (grown_trans hgr2 hq2).size (by omega) hlen (X2 k) (V2 k) hx
      have HQ := Lib.hid Q
      have HB := Lib.hid hbox
      clear hbox Q hst hrt
      go_still_tail 11, (by kernel_rfl)
      go_wp2_with (go_at_call 48; refine hrs.mono ?_; rintro e v4 ⟨pv', rfl, hr4, hg4⟩; obtain ⟨pa', pn', pc', hpv'⟩ := pv_form hr4.puts; subst hpv'; have hb4 := (hg4.block _ (lt_of_block HB.out) (by simp)).trans HB.out; have e0 : v4.cell? ⟨bx, 0, none⟩ = some (.slice wa wn wc) := (by simp [World.cell?, hb4]); have e1 : v4.cell? ⟨bx, 1, none⟩ = some (.slice pa pn pc) := (by simp [World.cell?, hb4]); have f0 : v4.frozen? ⟨bx, 0, none⟩ = false := (by simp [World.frozen?, hb4]); have f1 : v4.frozen? ⟨bx, 1, none⟩ = false := (by simp [World.frozen?, hb4]); clear hb4)
      go_roundw
      case rel => exact ⟨k + 1, by omega, by go_num, HQ.out.stored (grown_trans hq2 hg4) hr4 hbxn hbxne⟩
      case measure => simp [intOf]; omega
    · obtain ⟨N, hN⟩ : ∃ N, min n2 60 = N := ⟨_, rfl⟩
      rw [hN] at hk hlt ⊢
      obtain rfl : k = N := by omega
      have HN := Lib.hid hN
      obtain ⟨Rr, hT, hap⟩ := R.tx
      obtain ⟨pv, hbox, hrt⟩ := R.box
      obtain ⟨pa, pn, pc, hpv⟩ := pv_form hrt.puts
      subst hpv
      have hres := R.res
      have d0 : wr.cell? ⟨bx, 0, none⟩ = some (.slice wa wn wc) := by simp [World.cell?, hbox]
      have d1 : wr.cell? ⟨bx, 1, none⟩ = some (.slice pa pn pc) := by simp [World.cell?, hbox]
      have e0 : wr.cell? ⟨w.heap.size, 0, none⟩ = some (.slice none 0 0) := by simp [World.cell?, hres]
      have e1 : wr.cell? ⟨w.heap.size, 1, none⟩ = some (.slice none 0 0) := by simp [World.cell?, hres]
      have f0 : wr.frozen? ⟨w.heap.size, 0, none⟩ = false := by simp [World.frozen?, hres]
      have f1 : wr.frozen? ⟨w.heap.size, 1, none⟩ = false := by simp [World.frozen?, hres]
      have HR := Lib.hid hres
      clear hres hbox hN R
      have hend : Formed w ws (thinkL ws X2 V2 k) (.returned (.tuple #[.pointer (some ⟨T, 0, none⟩), .agg #[.slice wa wn wc, .slice pa pn pc]])) ((wr.setCell ⟨w.heap.size, 0, none⟩ (.slice wa wn wc)).setCell ⟨w.heap.size, 1, none⟩ (.slice pa pn pc)).drew := by
        have hs : wr.grownBy ((wr.setCell ⟨w.heap.size, 0, none⟩ (.slice wa wn wc)).setCell ⟨w.heap.size, 1, none⟩ (.slice pa pn pc)).drew (some w.heap.size) := grown_drew (grown_trans (grown_set _ _ _ _) (grown_set _ _ _ _))
        exact ⟨_, _, _, _, _, _, _, rfl, hT.other HR.out (Nat.le_refl _) hs, hrt.other HR.out hs, hap⟩
      have HE := Lib.hid hend
      clear hend
      by_cases hkn : k < n2
      · have h40 : ¬ k < 60 := by have := HN.out; omega
        go_wp2
        go_region
        all_goals go_wp2
        refine bodyPost_ret (v := .tuple #[.pointer (some ⟨T, 0, none⟩), .agg #[.slice wa wn wc, .slice pa pn pc]]) (by simp [results, Tryz.results16, go_sem, e0, e1]) rfl (by rw [HN.out]; exact HE.out)
      · go_wp2
        go_region
        all_goals go_wp2
        refine bodyPost_ret (v := .tuple #[.pointer (some ⟨T, 0, none⟩), .agg #[.slice wa wn wc, .slice pa pn pc]]) (by simp [results, Tryz.results16, go_sem, e0, e1]) rfl (by rw [HN.out]; exact HE.out)
theorem formed10_nil (n : Nat) (hn : n < 18446744073709551616) (w : World) : Calls Tryz.prog 16 #[.int .u64 n, .slice none 0 0] w (Formed w (fmt48 n) []) := formed10_any (c2 := 0) hn (puts_none w) (by decide)
end Go.Proofs.YtoamlkljfmgomaaGreat
