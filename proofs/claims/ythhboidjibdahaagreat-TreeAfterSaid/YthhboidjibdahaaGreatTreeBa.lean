/-
  Package tree: the contract of Build.
  Conditions: the Tx stands in memory; the blocks' offsets lie in memory, and are unlike.
-/
import Derived.Test.YthhboidjibdahaaGreatTreeY
namespace Go.Proofs.YthhboidjibdahaaGreat
open Go.RowKit
set_option linter.unusedVariables false
set_option linter.unusedSimpArgs false
set_option maxRecDepth 100000

section
variable {w : World} {T M : Nat} {R : Option Nat} {B D : Nat} {ws : List Nat} {l l' : List (Nat × Nat)} {z : Nat → Nat} {F S L : List Nat} {la : Option Addr} {c : Nat}
set_option maxHeartbeats 1000000 in
theorem sons_store (h : Thinks w T M R B D ws l) (x : Nd) (ho : x.o + 16 < 18446744073709551616) (hl : x.l < 18446744073709551616) (hr : x.r < 18446744073709551616) :
    Calls Tryz.prog 29 #[.agg #[.int .u64 (x.s : Nat), .int .u64 (x.o : Nat), .int .u64 (x.l : Nat), .int .u64 (x.r : Nat)], .func (.func 21) #[.pointer (some ⟨T, 0, none⟩)] #[]] w fun e w' => e = .returned (.tuple #[]) ∧ Thought w T M R B D ws (txStore ws (txStore ws l (x.o + 8) x.l) (x.o + 16) x.r) w' := by
  obtain ⟨xs, xo, xl, xr⟩ := x
  simp only at ho hl hr ⊢
  have h1 := fun (w1 : World) (hg : w.grownBy w1 none) => txstore_any (h.later hg) (xo + 8) xl (by omega) hl
  have h2 := fun (w1 : World) (R1 : Option Nat) (l1 : List (Nat × Nat)) (ht : Thinks w1 T M R1 B D ws l1) => txstore_any ht (xo + 16) xr (by omega) hr
  have e8 : IntKind.u64.wrap ((xo : Int) + 8) = (xo + 8 : Nat) := by rw [IntKind.wrap_u64]; omega
  have e16 : IntKind.u64.wrap ((xo : Int) + 16) = (xo + 16 : Nat) := by rw [IntKind.wrap_u64]; omega
  obtain ⟨o8, eo8⟩ : ∃ q, xo + 8 = q := ⟨_, rfl⟩
  obtain ⟨o16, eo16⟩ : ∃ q, xo + 16 = q := ⟨_, rfl⟩
  rw [eo8] at e8 h1
  rw [eo16] at e16 h2
  rw [eo8, eo16]
  have hg0 : w.grownBy (w.alloc (.cells #[.int .u64 xs, .int .u64 xo, .int .u64 xl, .int .u64 xr] 72)) none := World.grownBy_alloc _ _ _
  have hb0 : (w.alloc (.cells #[.int .u64 xs, .int .u64 xo, .int .u64 xl, .int .u64 xr] 72)).heap[w.heap.size]? = some (.cells #[.int .u64 xs, .int .u64 xo, .int .u64 xl, .int .u64 xr] 72 (0, 0)) := heap_alloc_new' _ _
  have HB := Lib.hid hb0
  have HTW := h.later hg0
  clear eo8 eo16 hb0 h
  go_enter Tryz.func29, Tryz.ntmps29
  go_wp2_with (first | (go_at_call 21; (with_reducible refine (h1 _ hg0).mono ?_); rintro e w1 ⟨rfl, R1, ht1, hq1, hr1⟩; obtain ⟨q0, q1, q2, q3⟩ := four_cells (hq1.heap HB.out (HTW.far HB.out (by decide) (by decide)))) | (go_at_call 21; (with_reducible refine (h2 _ _ _ ht1).mono ?_); rintro e w2 ⟨rfl, ht2⟩))
  go_end0
  exact ⟨rfl, Thought.first hg0 (Thought.trans hq1 hr1 ht2)⟩
theorem root_lt {n root : Nat} {g : Nat → Nat} (hS : SOk F S n) (ht : TreeOf g rkN root S) : root < 18446744073709551616 := by
  by_cases e : root = 0
  · omega
  · have := hS.free.on _ (hS.sub _ (ht.mem e)); omega
/-- the sons of a tree's blocks are blocks, or nobody -/
theorem son_lt {g : Nat → Nat} : ∀ {k : Nat} {l : List Nat} {r : Nat}, TreeN g rkN k r l → (∀ x, x ∈ l → x < 18446744073709551616) → ∀ x, x ∈ l → g (x + 8) < 18446744073709551616 ∧ g (x + 16) < 18446744073709551616
  | 0, l, r, h, _, x, hx => by rw [h.2] at hx; simp at hx
  | k + 1, l, r, h, hl, x, hx => by
    rcases h with h | ⟨h0, A, B, rfl, hA, hB, tA, tB⟩
    · rw [h.2] at hx; simp at hx
    · have root : ∀ {q : Nat} {m : List Nat}, TreeN g rkN k q m → (∀ x, x ∈ m → x < 18446744073709551616) → q < 18446744073709551616 := fun {q m} ht hm => by
        by_cases e : q = 0
        · omega
        · exact hm q (TreeOf.mem ht.of e)
      have lA : ∀ x, x ∈ A → x < 18446744073709551616 := fun x hx => hl x (by simp [hx])
      have lB : ∀ x, x ∈ B → x < 18446744073709551616 := fun x hx => hl x (by simp [hx])
      simp only [List.mem_append, List.mem_cons] at hx
      rcases hx with hx | rfl | hx
      · exact son_lt tA lA x hx
      · exact ⟨root tA lA, root tB lB⟩
      · exact son_lt tB lB x hx
set_option maxHeartbeats 4000000 in
theorem tbuild_any (h : Thinks w T M R B D ws l) (hB : Bed ws l z F) (hL : ∀ x, x ∈ L → x ∈ F) (hnd : L.Nodup) (hm : WordsAt w la L) (hlen : L.length ≤ 1000000) :
    Calls Tryz.prog 14 #[.pointer (some ⟨T, 0, none⟩), .slice la L.length c] w fun e w' => e = .returned (.tuple #[]) ∧ ∃ l', Thought w T M R B D ws l' w' ∧ Bed ws l' z F ∧ TreeIs (txSee ws l') z F L := by
  have hg0 : w.grownBy (w.alloc (.cells #[.pointer (some ⟨T, 0, none⟩)] 61)) none := World.grownBy_alloc _ _ _
  have hb0 : (w.alloc (.cells #[.pointer (some ⟨T, 0, none⟩)] 61)).heap[w.heap.size]? = some (.cells #[.pointer (some ⟨T, 0, none⟩)] 61 (0, 0)) := heap_alloc_new' _ _
  have hshape := tshape_any (c := c) (h.later hg0) hB hL hnd (hm.later hg0) hlen
  have hplant := fun (w1 : World) (hg : w.grownBy w1 none) (r : Nat) (hr : r < 18446744073709551616) => hplant_any (h.later hg) r hr
  have hSm : ∀ x, x ∈ srtK z L → x ∈ F := fun x hx => hL x (srtK_mem.1 hx)
  have hSl : (srtK z L).length = L.length := srtK_length
  have hfin : ∀ f : Nat → Nat, TreeOf f rkN (f 32) (srtK z L) → TreeIs f z F L := fun f ht => ⟨hB.free, hL, hnd, ht⟩
  obtain ⟨S, hSe⟩ : ∃ S, srtK z L = S := ⟨_, rfl⟩
  have hSn : S.Nodup := hSe ▸ (srtK_rising hnd).nodup
  rw [hSe] at hshape hSm hSl hfin
  obtain ⟨n, hn⟩ : ∃ n, L.length = n := ⟨_, rfl⟩
  rw [hn] at hshape hSl hlen ⊢
  have HS := Lib.hid (show SOk F S n from ⟨hB.free, hSl, hSm, hSn⟩)
  have HTH := Lib.hid h
  have HB := Lib.hid hB
  have HFIN := Lib.hid hfin
  have HB0 := Lib.hid hb0
  clear hb0 hSl hB hm hSm hnd hn hSe hL hfin hSn
  go_enter Tryz.func14, Tryz.ntmps14
  go_wp2_with (first | (go_at_call 28; (with_reducible refine hshape.mono ?_); rintro e w1 ⟨gb, nds, root, g, rfl, q1, q2, q3, q4, q5, q6, q7⟩; have hr64 : root < 18446744073709551616 := (root_lt HS.out q5); have hpl := hplant _ (grown_trans hg0 q6) root hr64) | (go_at_call 7; (with_reducible refine hpl.mono ?_); rintro e w2 ⟨rfl, ht2⟩))
  have G1 := grown_trans hg0 q6
  have hT1 := h.later G1
  have hW1 := (q6.block _ (lt_of_block HB0.out) (by simp)).trans HB0.out
  have hst32 : stands ws 32 := (HB.out.stand (.inl rfl)).1
  have hbox : ∀ {wr : World} {l2 : List (Nat × Nat)}, Thought w1 T M R B D ws l2 wr → wr.heap[w.heap.size]? = some (.cells #[.pointer (some ⟨T, 0, none⟩)] 61 (0, 0)) ∧ NodesAt wr gb nds := fun {wr l2} ⟨R', k1, k2, k3⟩ =>
    ⟨k2.heap hW1 (hT1.far hW1 (by decide) (by decide)), k2.heap q1 (hT1.far q1 (by decide) (by decide))⟩
  have hkept0 : Kept F (txSee ws l) (txSee ws (txStore ws l 32 root)) := Kept.put (lk := 32) (.inl rfl) fun q hq => by rw [see_stored hst32, if_neg hq]
  have h320 : txSee ws (txStore ws l 32 root) 32 = root := by rw [see_stored hst32, if_pos rfl]
  obtain ⟨l1, el1⟩ : ∃ l1, txStore ws l 32 root = l1 := ⟨_, rfl⟩
  rw [el1] at ht2 hkept0 h320
  have HT2 := Lib.hid ht2
  have HG1 := Lib.hid G1
  have HK0 := Lib.hid hkept0
  have H320 := Lib.hid h320
  have HO := Lib.hid q3
  have HNS := Lib.hid q4
  have HTR := Lib.hid q5
  have hlt : ∀ j, j < n → (ndI nds j).l < 18446744073709551616 ∧ (ndI nds j).r < 18446744073709551616 := fun j hj => by
    have h3 := HNS.out.sons j (by omega)
    rw [HO.out j hj] at h3
    have h4 := son_lt q5 (fun x hx => by have := HS.out.free.on x (HS.out.sub x hx); omega) (S.getD j 0) (HS.out.mem hj)
    rw [h3.1, h3.2] at h4
    exact h4
  have HLT := Lib.hid hlt
  clear q1 q3 q4 q5 q7 hW1 hkept0 h320 ht2 el1 hpl hlt hT1 q6 hg0 G1 h hplant
  go_loopw [22] (fun p wr => ∃ (i : Nat) (l2 : List (Nat × Nat)), i ≤ n ∧ p = .int .i64 i ∧ Thought w1 T M R B D ws l2 wr ∧ Kept F (txSee ws l) (txSee ws l2) ∧ txSee ws l2 32 = root ∧ ∀ j, j < i → txSee ws l2 (S.getD j 0 + 8) = (ndI nds j).l ∧ txSee ws l2 (S.getD j 0 + 16) = (ndI nds j).r) (fun p _ => n - (intOf p).toNat)
  case atStart => exact ⟨0, l1, Nat.zero_le _, rfl, HT2.out, HK0.out, H320.out, fun j hj => by omega⟩
  case round =>
    obtain ⟨i, l2, hi, rfl, hTr, hkp, h32, hal⟩ := hrel
    by_cases hin : i < n
    · have hin' : (i : Int) < (n : Int) := by omega
      obtain ⟨hWr, hNr⟩ := hbox hTr
      obtain ⟨c0, c1, c2, c3⟩ := hNr.cell (k := i) (by omega)
      obtain ⟨nd, hnd⟩ : ∃ nd, ndI nds i = nd := ⟨_, rfl⟩
      have hnd2 : nds.getD i default = nd := hnd
      rw [hnd2] at c0 c1 c2 c3
      have hoi := HO.out i hin
      rw [hnd] at hoi
      have hlr := HLT.out i hin
      rw [hnd] at hlr
      have hxF := HS.out.sub _ (HS.out.mem hin)
      have hga := World.grownBy_alloc wr (.cells #[.int .u64 (nd.s : Nat), .int .u64 (nd.o : Nat), .int .u64 (nd.l : Nat), .int .u64 (nd.r : Nat)] 72) none
      obtain ⟨R2, ht3, hq3, hr3⟩ := hTr
      have hsc := sons_store (ht3.later hga) nd (by rw [hoi]; exact (HB.out.first hxF).2) hlr.1 hlr.2
      have hstep : ∀ q, txSee ws (txStore ws (txStore ws l2 (nd.o + 8) nd.l) (nd.o + 16) nd.r) q = if q = nd.o + 16 then nd.r else if q = nd.o + 8 then nd.l else txSee ws l2 q := fun q => by
        have s8 := (HB.out.stand (lk := nd.o + 8) (.inr ⟨_, hxF, .inl (by rw [hoi])⟩)).1
        have s16 := (HB.out.stand (lk := nd.o + 16) (.inr ⟨_, hxF, .inr (by rw [hoi])⟩)).1
        rw [see_stored s16, see_stored s8]
      obtain ⟨l3, el3⟩ : ∃ l3, txStore ws (txStore ws l2 (nd.o + 8) nd.l) (nd.o + 16) nd.r = l3 := ⟨_, rfl⟩
      rw [el3] at hsc hstep
      have c9 := cell_of_one (two_held1 hWr hga)
      have hna := heap_alloc_new' wr (.cells #[.int .u64 (nd.s : Nat), .int .u64 (nd.o : Nat), .int .u64 (nd.l : Nat), .int .u64 (nd.r : Nat)] 72)
      obtain ⟨m0, m1, m2, m3⟩ := four_cells hna
      have HKP := Lib.hid hkp
      have H32 := Lib.hid h32
      have HAL := Lib.hid hal
      have HST := Lib.hid hstep
      have HND := Lib.hid hnd
      have HOI := Lib.hid hoi
      clear hnd hnd2 hoi hNr hWr hna hkp h32 hal hstep el3 hlr
      go_wp2_with (first | (go_at_call 29; (with_reducible refine hsc.mono ?_); rintro e w3 ⟨rfl, hth3⟩))
      go_roundw
      case rel =>
        have hx := HS.out.free.on _ hxF
        refine ⟨i + 1, l3, by omega, by go_num, Thought.trans hq3 hr3 (Thought.first hga hth3), HKP.out.trans fun q h1 h2 => ?_, ?_, fun j hj => ?_⟩
        · have := h2 _ hxF
          rw [HST.out, HOI.out, if_neg this.2, if_neg this.1]
        · rw [HST.out, HOI.out, if_neg (by omega), if_neg (by omega), H32.out]
        · rcases Nat.lt_succ_iff_lt_or_eq.1 hj with h5 | rfl
          · have h6 := HAL.out j h5
            have h7 := HS.out.free.far (HS.out.sub _ (HS.out.mem (show j < n by omega))) hxF (fun e => by have := HS.out.inj (show j < n by omega) hin e; omega)
            rw [HST.out, HST.out, HOI.out, if_neg (by omega), if_neg (by omega), if_neg (by omega), if_neg (by omega)]
            exact h6
          · rw [HST.out, HST.out, HOI.out, HND.out, if_neg (by omega), if_pos rfl, if_pos rfl]
            exact ⟨rfl, rfl⟩
      case measure => simp [intOf]; omega
    · obtain rfl : i = n := by omega
      have HKP := Lib.hid hkp
      have H32 := Lib.hid h32
      have HAL := Lib.hid hal
      clear hkp h32 hal
      go_wp2
      go_end0
      refine ⟨rfl, l2, Thought.first HG1.out hTr, HB.out.kept HKP.out, HFIN.out _ ?_⟩
      refine HTR.out.carry (fun x hx => ?_) H32.out
      obtain ⟨j, hj, e⟩ := List.mem_iff_getElem.1 hx
      have hj' : j < i := by have := HS.out.len; omega
      have hxe : S.getD j 0 = x := by rw [List.getD_eq_getElem?_getD, List.getElem?_eq_getElem hj]; exact e
      have h3 := HNS.out.sons j (by omega)
      rw [HO.out j hj'] at h3
      have h4 := HAL.out j hj'
      rw [hxe] at h3 h4
      exact ⟨h4.1.trans h3.1.symm, h4.2.trans h3.2.symm⟩
end
end Go.Proofs.YthhboidjibdahaaGreat
