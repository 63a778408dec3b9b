/-
  Package tree: the contracts of Insert and Delete.
  Conditions: the Tx stands in memory; the words say the tree of some blocks.
-/
import Derived.Test.YthhboidjibdahaaGreatTreeF
namespace Go.Proofs.YthhboidjibdahaaGreat
open Go.RowKit
set_option linter.unusedVariables false
set_option linter.unusedSimpArgs false
set_option maxRecDepth 100000

section
variable {w : World} {T M : Nat} {R : Option Nat} {B D : Nat} {ws : List Nat} {l l' : List (Nat × Nat)} {z : Nat → Nat} {F S U lst : List Nat} {off lk n k v left right : Nat}
theorem TreeIs.tame {f : Nat → Nat} (h : TreeIs f z F lst) : Tame z F (srtK z lst) := ⟨h.free, srtK_rising h.nodup, fun x hx => h.sub x (srtK_mem.1 hx)⟩
theorem filter_nodup (h : lst.Nodup) (p : Nat → Bool) : (lst.filter p).Nodup := h.filter p
theorem TreeIs.gone {f g : Nat → Nat} (h : TreeIs f z F lst) (ht : TreeOf g rkN (g 32) ((srtK z lst).filter fun a => decide (a ≠ off))) : TreeIs g z F (lst.filter fun a => decide (a ≠ off)) :=
  ⟨h.free, fun x hx => h.sub x (List.mem_filter.1 hx).1, h.nodup.filter _, by rw [srtK_erase h.nodup]; exact ht⟩
theorem TreeIs.come {f g : Nat → Nat} (h : TreeIs f z F lst) (ho : off ∈ F) (hn : off ∉ lst) (ht : TreeOf g rkN (g 32) (insK z off (srtK z lst))) : TreeIs g z F (lst ++ [off]) := by
  refine ⟨h.free, fun x hx => ?_, ?_, by rw [srtK_snoc]; exact ht⟩
  · rcases List.mem_append.1 hx with hx | hx
    · exact h.sub x hx
    · have : x = off := by simpa using hx
      rw [this]; exact ho
  · rw [List.nodup_append]
    refine ⟨h.nodup, by simp, fun a ha b hb e => ?_⟩
    have : b = off := by simpa using hb
    exact hn (this ▸ e ▸ ha)
theorem Tame.lot (h : Tame z F S) (p : Nat → Bool) : Lot F (S.filter p) := ⟨h.free, h.rise.nodup.filter p, fun x hx => h.sub x (List.mem_filter.1 hx).1⟩
set_option maxHeartbeats 4000000 in
theorem tinsert_any (h : Thinks w T M R B D ws l) (hB : Bed ws l z F) (hI : TreeIs (txSee ws l) z F lst) (ho : off ∈ F) (hn : off ∉ lst) :
    Calls Tryz.prog 9 #[.pointer (some ⟨T, 0, none⟩), .int .u64 off] w fun e w' => e = .returned (.tuple #[]) ∧ ∃ l', Thought w T M R B D ws l' w' ∧ Bed ws l' z F ∧ TreeIs (txSee ws l') z F (lst ++ [off]) := by
  have ho64 := (hB.first ho).2
  have hg0 : w.grownBy (w.alloc (.cells #[.pointer (some ⟨T, 0, none⟩)] 61)) none := World.grownBy_alloc _ _ _
  have ha : (w.alloc (.cells #[.pointer (some ⟨T, 0, none⟩)] 61)).heap[w.heap.size]? = some (.cells #[.pointer (some ⟨T, 0, none⟩)] 61 (0, 0)) := heap_alloc_new' _ _
  have hfind := tfind_any (h.later hg0) hB hI.tame hI.tree ho
  have hd : decide (off ∈ srtK z lst) = false := decide_eq_false fun hm => hn (srtK_mem.1 hm)
  rw [hd] at hfind
  have hload := fun (w1 : World) (hg : w.grownBy w1 none) (q : Nat) (hq : q < 18446744073709551616) => txload_any (h.later hg) q hq
  have hlead := fun (w1 : World) (hg : w.grownBy w1 none) (lk : Nat) (hL : LinkOf F lk) => tlead_any (h.later hg) lk off (hB.stand hL).1 (hB.stand hL).2 (by omega)
  have HA := Lib.hid ha
  have HI := Lib.hid hI
  have HB := Lib.hid hB
  have HTH := Lib.hid h
  have hlk64 := fun lk (hL : LinkOf F lk) => (hB.stand hL).2
  clear ha hI hB hd
  go_enter Tryz.func9, Tryz.ntmps9
  go_wp2_with (first | (go_at_call 23; (with_reducible refine hfind.mono ?_); rintro e w1 ⟨hg1, lk, n, hF, hlk, hL, rfl⟩; have HF := Lib.hid hF; have HL := Lib.hid hL; have G1 := grown_trans hg0 hg1; have X1 := Lib.hid ((hg1.block _ (lt_of_block HA.out) (by simp)).trans HA.out); have c1 := cell_of_one X1.out; have hld := hload _ G1 lk (hlk64 lk hL); rw [hlk] at hld; have HLK := Lib.hid hlk; clear hlk hL hF) | (go_at_call 24; (with_reducible refine hld.mono ?_); rintro e w2 ⟨rfl, hg2⟩; have G2 := grown_trans G1 hg2; have X2 := Lib.hid ((hg2.block _ (lt_of_block X1.out) (by simp)).trans X1.out); have c2 := cell_of_one X2.out) | (go_at_call 25; (with_reducible refine (hlead _ G2 lk HL.out).mono ?_); rintro e w4 ⟨rfl, l3, ⟨R3, ht3, hq3, hr3⟩, hl3⟩))
  have X4 := hq3.heap X2.out ((h.later G2).far X2.out (by decide) (by decide))
  have hB3 := HB.out.led HL.out hl3
  obtain ⟨k, hway⟩ := HF.out.way
  obtain ⟨lst', htr, hU, hend⟩ := insert_end HI.out.tame ho (fun hm => hn (srtK_mem.1 hm)) hway HF.out.stop hl3.off hl3.at_
  have hkey := fun (w1 : World) (hg : w4.grownBy w1 none) => tkey_any (ht3.later hg) off (by omega)
  rw [hB3.keys off ho] at hkey
  have hsplit := fun (w1 : World) (hg : w4.grownBy w1 none) => tsplit_any (ht3.later hg) hB3 hU n htr
  obtain ⟨zo, hzo⟩ : ∃ q, z off = q := ⟨_, rfl⟩
  rw [hzo] at hkey hsplit
  have hcell : ∀ {wq : World}, w4.grownBy wq none → wq.cell? ⟨w.heap.size, 0, none⟩ = some (.pointer (some ⟨T, 0, none⟩)) := fun {wq} hg => cell_of_one ((hg.block _ (lt_of_block X4) (by simp)).trans X4)
  have hfar : ∀ {w5 w6 : World} {l5 : List (Nat × Nat)}, w4.grownBy w5 none → Thought w5 T M R3 B D ws l5 w6 → w6.cell? ⟨w.heap.size, 0, none⟩ = some (.pointer (some ⟨T, 0, none⟩)) := fun {w5 w6 l5} hg ⟨_, _, q5, _⟩ => cell_of_one (q5.heap ((hg.block _ (lt_of_block X4) (by simp)).trans X4) ((ht3.later hg).far ((hg.block _ (lt_of_block X4) (by simp)).trans X4) (by decide) (by decide)))
  have HG : w4.grownBy w4.drew none := grown_drew (grown_refl _ _)
  have d0 := hcell HG
  have HEND := Lib.hid hend
  have HT3 := Lib.hid (show Thought w T M R B D ws l3 w4 from Thought.first G2 ⟨R3, ht3, hq3, hr3⟩)
  have HQ := Lib.hid (show ∀ (l5 : List (Nat × Nat)) (w6 : World), Thought w4 T M R3 B D ws l5 w6 → Thought w T M R B D ws l5 w6 from fun l5 w6 hx => Thought.first G2 (Thought.trans hq3 hr3 hx))
  clear hend hway hU htr c1 c2 hld hload hlead hfind hzo hg0 hlk64
  go_region_held3 (fun wq => wq.cell? ⟨w.heap.size, 0, none⟩ = some (.pointer (some ⟨T, 0, none⟩))) (first | exact hcell HG | exact hcellE) (first | (go_at_call 27; (with_reducible refine (hkey _ HG).mono ?_); rintro e w9 ⟨rfl, hg9⟩; replace HG := grown_trans HG hg9; have d1 := hcell HG) | (go_at_call 26; (with_reducible refine (hsplit _ HG).mono ?_); rintro e w10 ⟨rfl, l4, ht4, hsp⟩; have hcellE := hfar HG ht4; clear hcell))
  go_end0
  obtain ⟨a, b, e1, e2, e3, e4, e5, e6⟩ := hsp
  obtain ⟨q1, q2⟩ := HEND.out _ a b e1 e2 e3 e4 e5 e6
  exact ⟨rfl, l4, HQ.out _ _ (Thought.first HG ht4), HB.out.kept q2, HI.out.come ho hn q1⟩
set_option maxHeartbeats 4000000 in
theorem tdelete_yes (h : Thinks w T M R B D ws l) (hB : Bed ws l z F) (hI : TreeIs (txSee ws l) z F lst) (ho : off ∈ F) (hn : off ∈ lst) :
    Calls Tryz.prog 18 #[.pointer (some ⟨T, 0, none⟩), .int .u64 off] w fun e w' => e = .returned (.bool true) ∧ ∃ l', Thought w T M R B D ws l' w' ∧ Bed ws l' z F ∧ TreeIs (txSee ws l') z F (lst.filter fun a => decide (a ≠ off)) := by
  have ho64 := (hB.first ho).2
  have hg0 : w.grownBy (w.alloc (.cells #[.pointer (some ⟨T, 0, none⟩)] 61)) none := World.grownBy_alloc _ _ _
  have ha : (w.alloc (.cells #[.pointer (some ⟨T, 0, none⟩)] 61)).heap[w.heap.size]? = some (.cells #[.pointer (some ⟨T, 0, none⟩)] 61 (0, 0)) := heap_alloc_new' _ _
  have hfind := tfind_any (h.later hg0) hB hI.tame hI.tree ho
  have hd : decide (off ∈ srtK z lst) = true := decide_eq_true (srtK_mem.2 hn)
  rw [hd] at hfind
  have hload8 := fun (w1 : World) (hg : w.grownBy w1 none) => txload_any (h.later hg) (off + 8) (by omega)
  have hload16 := fun (w1 : World) (hg : w.grownBy w1 none) => txload_any (h.later hg) (off + 16) (by omega)
  have e8 : IntKind.u64.wrap ((off : Int) + 8) = (off + 8 : Nat) := by rw [IntKind.wrap_u64]; omega
  have e16 : IntKind.u64.wrap ((off : Int) + 16) = (off + 16 : Nat) := by rw [IntKind.wrap_u64]; omega
  obtain ⟨y8, ey8⟩ : ∃ q, txSee ws l (off + 8) = q := ⟨_, rfl⟩
  obtain ⟨y16, ey16⟩ : ∃ q, txSee ws l (off + 16) = q := ⟨_, rfl⟩
  rw [ey8] at hload8
  rw [ey16] at hload16
  obtain ⟨o8, eo8⟩ : ∃ q, off + 8 = q := ⟨_, rfl⟩
  obtain ⟨o16, eo16⟩ : ∃ q, off + 16 = q := ⟨_, rfl⟩
  rw [eo8] at e8 hload8
  rw [eo16] at e16 hload16
  have hjoin := fun (w1 : World) (hg : w.grownBy w1 none) (lk : Nat) (hj : JoinE (txSee ws l) z F ((srtK z lst).filter fun a => decide (a ≠ off)) lk y8 y16) => tjoin_any (h.later hg) hB (hI.tame.lot _) hj
  have hJ : ∀ lk n, Found (txSee ws l) z F (srtK z lst) off lk n → JoinE (txSee ws l) z F ((srtK z lst).filter fun a => decide (a ≠ off)) lk y8 y16 := fun lk n hF => by
    obtain ⟨k, hk⟩ := hF.way
    have hno := hF.is.2 (srtK_mem.2 hn)
    rw [hno] at hk
    have hj := join_start hI.tame hk ho
    rw [ey8, ey16] at hj
    exact hj
  have HA := Lib.hid ha
  have HI := Lib.hid hI
  have HB := Lib.hid hB
  have HTH := Lib.hid h
  have HJ := Lib.hid hJ
  clear ha hI hB hd eo8 eo16 ey8 ey16 hJ
  go_enter Tryz.func18, Tryz.ntmps18
  go_wp2_with (first | (go_at_call 23; (with_reducible refine hfind.mono ?_); rintro e w1 ⟨hg1, lk, n, hF, hlk, hL, rfl⟩; have HF := Lib.hid hF; have G1 := grown_trans hg0 hg1; have X1 := Lib.hid ((hg1.block _ (lt_of_block HA.out) (by simp)).trans HA.out); have c1 := cell_of_one X1.out; clear hlk hL hF))
  have X4 := X1.out
  have hj2 := fun (w1 : World) (hg : w.grownBy w1 none) => hjoin w1 hg lk (HJ.out lk n HF.out)
  have hcell : ∀ {wq : World}, w1.grownBy wq none → wq.cell? ⟨w.heap.size, 0, none⟩ = some (.pointer (some ⟨T, 0, none⟩)) := fun {wq} hg => cell_of_one ((hg.block _ (lt_of_block X4) (by simp)).trans X4)
  have hfar : ∀ {w5 w6 : World} {l5 : List (Nat × Nat)}, w1.grownBy w5 none → Thought w5 T M R B D ws l5 w6 → w6.cell? ⟨w.heap.size, 0, none⟩ = some (.pointer (some ⟨T, 0, none⟩)) := fun {w5 w6 l5} hg ⟨_, _, q5, _⟩ => cell_of_one (q5.heap ((hg.block _ (lt_of_block X4) (by simp)).trans X4) ((h.later (grown_trans G1 hg)).far ((hg.block _ (lt_of_block X4) (by simp)).trans X4) (by decide) (by decide)))
  have HG : w1.grownBy w1.drew none := grown_drew (grown_refl _ _)
  have d0 := hcell HG
  clear c1 hfind hg0 hjoin
  go_region_held3 (fun wq => wq.cell? ⟨w.heap.size, 0, none⟩ = some (.pointer (some ⟨T, 0, none⟩))) (first | exact hcell HG | exact hcellE) (first | (go_at_call 24; (with_reducible refine (hload8 _ (grown_trans G1 HG)).mono ?_); rintro e w9 ⟨rfl, hg9⟩; replace HG := grown_trans HG hg9; have d1 := hcell HG) | (go_at_call 24; (with_reducible refine (hload16 _ (grown_trans G1 HG)).mono ?_); rintro e w9 ⟨rfl, hg9⟩; replace HG := grown_trans HG hg9; have d1 := hcell HG) | (go_at_call 34; (with_reducible refine (hj2 _ (grown_trans G1 HG)).mono ?_); rintro e w10 ⟨rfl, l4, ht4, hsp1, hsp2⟩; have hcellE := hfar HG ht4; clear hcell))
  go_wp2
  go_ret
  exact ⟨rfl, l4, Thought.first (grown_trans G1 HG) ht4, HB.out.kept hsp2, HI.out.gone hsp1⟩
set_option maxHeartbeats 1000000 in
theorem tdelete_no (h : Thinks w T M R B D ws l) (hB : Bed ws l z F) (hI : TreeIs (txSee ws l) z F lst) (ho : off ∈ F) (hn : off ∉ lst) :
    Calls Tryz.prog 18 #[.pointer (some ⟨T, 0, none⟩), .int .u64 off] w fun e w' => e = .returned (.bool false) ∧ w.grownBy w' none := by
  have hg0 : w.grownBy (w.alloc (.cells #[.pointer (some ⟨T, 0, none⟩)] 61)) none := World.grownBy_alloc _ _ _
  have hfind := tfind_any (h.later hg0) hB hI.tame hI.tree ho
  have hd : decide (off ∈ srtK z lst) = false := decide_eq_false fun hm => hn (srtK_mem.1 hm)
  rw [hd] at hfind
  clear hI hB hd h
  go_enter Tryz.func18, Tryz.ntmps18
  go_wp2_with (first | (go_at_call 23; (with_reducible refine hfind.mono ?_); rintro e w1 ⟨hg1, lk, n, hF, hlk, hL, rfl⟩; clear hlk hL hF))
  go_ret
  exact ⟨rfl, grown_trans hg0 hg1⟩
end
end Go.Proofs.YthhboidjibdahaaGreat
