/-
  What is laid is read, until a word of it is otherwise, or the heap ends ahead of its end. The statement TagStands, for every offset, every tag, and every pair; no condition.
-/
import Derived.Test.YtgebkdngglljeaaTagG
import Derived.Test.YtgebkdngglljeaaTagO
namespace Go.Proofs.Ytgebkdngglljeaa.tagStands
open Go.ChangeShapes Go.WideShapes Go.ChangeAt Go.RowKit
set_option linter.unusedVariables false
set_option linter.unusedSimpArgs false

/-- the two arguments' boxes, whatever is made behind them -/
theorem two_boxes {w w' : World} {a b c x y : Value} {t t2 : TypeId} (hg : ((w.alloc (.cells #[a, b, c] t)).alloc (.cells #[x, y] t2)).grownBy w' none) :
    w'.cell? ⟨w.heap.size, 0, none⟩ = some a ∧ w'.cell? ⟨w.heap.size, 1, none⟩ = some b ∧ w'.cell? ⟨w.heap.size, 2, none⟩ = some c ∧ w'.cell? ⟨w.heap.size + 1, 0, none⟩ = some x ∧ w'.cell? ⟨w.heap.size + 1, 1, none⟩ = some y := by
  have h1 : (w.alloc (.cells #[a, b, c] t)).heap[w.heap.size]? = some (.cells #[a, b, c] t (0, 0)) := heap_alloc_new' _ _
  have h2 := ((World.grownBy_alloc (w.alloc (.cells #[a, b, c] t)) (.cells #[x, y] t2) none).block _ (lt_of_block h1) (by simp)).trans h1
  have h3 := heap_alloc_new' (w.alloc (.cells #[a, b, c] t)) (.cells #[x, y] t2)
  rw [World.size_alloc] at h3
  obtain ⟨k0, k1, k2⟩ := tag_cells ((hg.block _ (lt_of_block h2) (by simp)).trans h2)
  obtain ⟨j0, j1⟩ := two_cells ((hg.block _ (lt_of_block h3) (by simp)).trans h3)
  exact ⟨k0, k1, k2, j0, j1⟩
set_option maxRecDepth 100000 in
set_option maxHeartbeats 8000000 in
theorem core_no (off : Nat) (ho : off < 18446744073709551616) (s : Nat) (u : Bool) (o : Int) (x y : Nat) (hn : ¬ (mayP s u o ∧ inP 4480 off s)) (w : World) :
    Calls Try.prog 6 #[.int .u64 off, .agg #[.int .u64 s, .bool u, .int .i64 o], .agg #[.int .u64 x, .int .u64 y]] w fun e w' => e = .returned (.bool true) ∧ w.grownBy w' none := by
  have hfo : ∀ w, Calls Try.prog 16 #[.int .u64 4480, .slice none 0 0] w _ := fun w => formed_nil 4480 (by decide) w
  have h16 : txSee (fmt48 4480) [] 16 = 4480 := by
    have h : fitsP 4480 4800 := by unfold fitsP; omega
    rw [fmt48_yes h, see_nil]; exact fmt48_16 h
  obtain ⟨ws, ews⟩ : ∃ ws, fmt48 4480 = ws := ⟨_, rfl⟩
  rw [ews] at hfo h16
  have hwr := fun (w : World) (T M : Nat) (R : Option Nat) (B D : Nat) (h : Thinks w T M R B D ws []) => twrite_no h off s u o (by rw [h16]; exact hn)
  have hmd := fun w => made_any s u o w
  have hpu := fun (w : World) (T M : Nat) (R : Option Nat) (B D : Nat) (h : Thinks w T M R B D ws []) => txputs_any h
  have hg0 : w.grownBy ((w.alloc (.cells #[.int .u64 s, .bool u, .int .i64 o] 24)).alloc (.cells #[.int .u64 x, .int .u64 y] 52)) none := grown_trans (World.grownBy_alloc _ _ _) (World.grownBy_alloc _ _ _)
  clear ews h16 hn
  go_enter Try.func6, Try.ntmps6
  go_wp2_with (first | (go_at_call 8; ((with_reducible refine (awake5 _).mono ?_); rintro e w1 ⟨rfl, hg1⟩)) | (go_at_call 16; ((with_reducible refine (hfo _).mono ?_); rintro e w2 ⟨B, D, T, M, R, wv, pv, rfl, X1, hrt, _⟩; obtain ⟨wa, wn, wc, hwv⟩ := wv_form hrt.words; subst hwv; obtain ⟨pa, pn, pc, hpv⟩ := pv_form hrt.puts; subst hpv; have X2 := X1.later (World.grownBy_alloc w2 (.cells #[.slice wa wn wc, .slice pa pn pc] 42) none); obtain ⟨q0, q1, q2, q3, q4⟩ := two_boxes (grown_trans hg1 X2.since))) | (go_at_call 12; ((with_reducible refine (hmd _).mono ?_); rintro e w3 ⟨rfl, hg3⟩; have X3 := X2.later hg3)) | (go_at_call 19; ((with_reducible refine (hwr _ _ _ _ _ _ X3.tx).mono ?_); rintro e w4 ⟨rfl, hg4⟩; have X4 := X3.later hg4)) | (go_at_call 20; ((with_reducible refine (hpu _ _ _ _ _ _ X4.tx).mono ?_); rintro e w5 ⟨v5, rfl, ho5, hg5⟩; obtain ⟨a5, c5, _, hv5, _⟩ := ho5.addr; rw [List.length_nil] at hv5; subst hv5; have X5 := X4.later hg5)))
  go_ret
  exact ⟨ret_bool' (by simp), grown_trans hg0 (grown_trans hg1 X5.since)⟩
set_option maxRecDepth 100000 in
set_option maxHeartbeats 8000000 in
theorem core_off (off : Nat) (ho : off < 18446744073709551616) (s : Nat) (u : Bool) (m : Nat) (y : Nat) (hy : y < 18446744073709551616) (hm : mayP s u m) (hi : inP 4480 off s) (w : World) :
    Calls Try.prog 6 #[.int .u64 off, .agg #[.int .u64 s, .bool u, .int .i64 m], .agg #[.int .u64 off, .int .u64 y]] w fun e w' => e = .returned (.bool true) ∧ w.grownBy w' none := by
  have hfo : ∀ w, Calls Try.prog 16 #[.int .u64 4480, .slice none 0 0] w _ := fun w => formed_nil 4480 (by decide) w
  have h16 : txSee (fmt48 4480) [] 16 = 4480 := by
    have h : fitsP 4480 4800 := by unfold fitsP; omega
    rw [fmt48_yes h, see_nil]; exact fmt48_16 h
  have L := laid_of hm hi
  obtain ⟨b, eb⟩ : ∃ b, off + s - 8 = b := ⟨_, rfl⟩
  obtain ⟨p, ep⟩ : ∃ p, packN s u m = p := ⟨_, rfl⟩
  have hp64 : p < 18446744073709551616 := by rw [← ep]; exact (unpack_pack hm).1
  obtain ⟨ws, ews⟩ : ∃ ws, fmt48 4480 = ws := ⟨_, rfl⟩
  rw [ews] at hfo h16 L
  have hwr := fun (w : World) (T M : Nat) (R : Option Nat) (B D : Nat) (h : Thinks w T M R B D ws []) => twrite_yes h off s u m ho hm (by rw [h16]; exact hi)
  rw [ep, eb] at hwr L
  obtain ⟨l, el⟩ : ∃ l, txStore ws (txStore ws [] off p) b p = l := ⟨_, rfl⟩
  rw [el] at hwr L
  have hr1 := fun (w : World) (T M : Nat) (R : Option Nat) (B D : Nat) (h : Thinks w T M R B D ws l) => tread_any h off ho
  obtain ⟨r1, r2, r3, r4⟩ := L.read hm ep
  rw [r1, r2, r3, r4] at hr1
  have hmd := fun w => made_any s u m w
  have hlo := fun (w : World) (T M : Nat) (R : Option Nat) (B D : Nat) (h : Thinks w T M R B D ws l) => txload_any h off ho
  rw [L.o] at hlo
  have hst := fun (w : World) (T M : Nat) (R : Option Nat) (B D : Nat) (h : Thinks w T M R B D ws l) => txstore_any h off y ho hy
  have hr2 := fun (w : World) (T M : Nat) (R : Option Nat) (B D : Nat) (h : Thinks w T M R B D ws (txStore ws l off y)) => tread_any h off ho
  have hsame := fun (e : y = p) => L.off_same hm ep
  have helse := fun (e : y ≠ p) => L.off_else hm ep e
  have h16o : ((off : Int) == 16) = false := by have := L.l1; rw [beq_eq_false_iff_ne]; omega
  obtain ⟨l3, el3⟩ : ∃ l3, txStore ws l off y = l3 := ⟨_, rfl⟩
  have hcase : (y = p ∧ s = rdS (txSee ws l3) off ∧ u = rdU (txSee ws l3) off ∧ m = rdO (txSee ws l3) off ∧ 0 = rdE (txSee ws l3) off) ∨ (((y : Int) != (p : Int)) = true ∧ (12 = rdE (txSee ws l3) off ∨ (0 = rdE (txSee ws l3) off ∧ (((rdS (txSee ws l3) off : Int) == (s : Int)) = false ∨ (s = rdS (txSee ws l3) off ∧ ((rdU (txSee ws l3) off == u) = false ∨ (u = rdU (txSee ws l3) off ∧ ((rdO (txSee ws l3) off : Int) == (m : Int)) = false))))))) := by
    rw [← el3]
    by_cases e : y = p
    · subst e
      obtain ⟨e1, e2, e3, e4⟩ := L.off_same hm ep
      exact .inl ⟨rfl, e1.symm, e2.symm, e3.symm, e4.symm⟩
    · refine .inr ⟨by rw [bne_iff_ne]; omega, ?_⟩
      rcases L.off_else hm ep e with h | ⟨h, h2⟩
      · exact .inl h.symm
      · refine .inr ⟨h.symm, ?_⟩
        by_cases e1 : rdS (txSee ws (txStore ws l off y)) off = s
        · refine .inr ⟨e1.symm, ?_⟩
          by_cases e2 : rdU (txSee ws (txStore ws l off y)) off = u
          · refine .inr ⟨e2.symm, ?_⟩
            rw [beq_eq_false_iff_ne]
            exact fun e3 => h2 ⟨e1, e2, by omega⟩
          · exact .inl (by rw [beq_eq_false_iff_ne]; exact e2)
        · exact .inl (by rw [beq_eq_false_iff_ne]; omega)
  rw [el3] at hst hr2
  clear hsame helse el3
  obtain ⟨S2, a1⟩ : ∃ k, rdS (txSee ws l3) off = k := ⟨_, rfl⟩
  obtain ⟨U2, a2⟩ : ∃ k, rdU (txSee ws l3) off = k := ⟨_, rfl⟩
  obtain ⟨O2, a3⟩ : ∃ k, rdO (txSee ws l3) off = k := ⟨_, rfl⟩
  obtain ⟨E2, a4⟩ : ∃ k, rdE (txSee ws l3) off = k := ⟨_, rfl⟩
  rw [a1, a2, a3, a4] at hr2 hcase
  have HC := Lib.hid hcase
  have hg0 : w.grownBy ((w.alloc (.cells #[.int .u64 s, .bool u, .int .i64 m] 24)).alloc (.cells #[.int .u64 off, .int .u64 y] 52)) none := grown_trans (World.grownBy_alloc _ _ _) (World.grownBy_alloc _ _ _)
  clear ews h16 hi L eb ep el r1 r2 r3 r4 a1 a2 a3 a4 hcase hm
  go_enter Try.func6, Try.ntmps6
  go_wp2_with (first | (go_at_call 8; ((with_reducible refine (awake5 _).mono ?_); rintro e w1 ⟨rfl, hg1⟩)) | (go_at_call 16; ((with_reducible refine (hfo _).mono ?_); rintro e w2 ⟨B, D, T, M, R, wv, pv, rfl, X1, hrt, _⟩; obtain ⟨wa, wn, wc, hwv⟩ := wv_form hrt.words; subst hwv; obtain ⟨pa, pn, pc, hpv⟩ := pv_form hrt.puts; subst hpv; have X2 := X1.later (World.grownBy_alloc w2 (.cells #[.slice wa wn wc, .slice pa pn pc] 42) none); obtain ⟨q0, q1, q2, q3, q4⟩ := two_boxes (grown_trans hg1 X2.since))) | (go_at_call 12; ((with_reducible refine (hmd _).mono ?_); rintro e w3 ⟨rfl, hg3⟩; have X3 := X2.later hg3)) | (go_at_call 19; ((with_reducible refine (hwr _ _ _ _ _ _ X3.tx).mono ?_); rintro e w4 ⟨rfl, ht4⟩; obtain ⟨R4, X4, _⟩ := X3.step ht4)) | (go_at_call 17; ((with_reducible refine (hr1 _ _ _ _ _ _ X4.tx).mono ?_); rintro e w5 ⟨rfl, hg5⟩; have hga := World.grownBy_alloc w5 (.cells #[.int .u64 s, .bool u, .int .i64 m] 26) none; have X5 := X4.later (grown_trans hg5 hga))))
  have hcell : ∀ {wr : World}, (w5.alloc (.cells #[.int .u64 s, .bool u, .int .i64 m] 26)).grownBy wr none →
      (wr.cell? ⟨w.heap.size, 0, none⟩ = some (.int .u64 s) ∧ wr.cell? ⟨w.heap.size, 1, none⟩ = some (.bool u) ∧ wr.cell? ⟨w.heap.size, 2, none⟩ = some (.int .i64 m)) ∧
      (wr.cell? ⟨w5.heap.size, 0, none⟩ = some (.int .u64 s) ∧ wr.cell? ⟨w5.heap.size, 1, none⟩ = some (.bool u) ∧ wr.cell? ⟨w5.heap.size, 2, none⟩ = some (.int .i64 m)) := fun {wr} hg => by
    obtain ⟨k0, k1, k2, _, _⟩ := two_boxes (grown_trans hg1 (grown_trans X5.since hg))
    exact ⟨⟨k0, k1, k2⟩, tag_cells (tag_first hg)⟩
  have HG : (w5.alloc (.cells #[.int .u64 s, .bool u, .int .i64 m] 26)).grownBy (w5.alloc (.cells #[.int .u64 s, .bool u, .int .i64 m] 26)).drew none := grown_drew (grown_refl _ _)
  clear q0 q1 q2 q3 q4
  obtain ⟨⟨y0, y1, y2⟩, z0, z1, z2⟩ := hcell HG
  go_region_held3 (fun wr => (wr.cell? ⟨w.heap.size, 0, none⟩ = some (.int .u64 s) ∧ wr.cell? ⟨w.heap.size, 1, none⟩ = some (.bool u) ∧ wr.cell? ⟨w.heap.size, 2, none⟩ = some (.int .i64 m)) ∧
      (wr.cell? ⟨w5.heap.size, 0, none⟩ = some (.int .u64 s) ∧ wr.cell? ⟨w5.heap.size, 1, none⟩ = some (.bool u) ∧ wr.cell? ⟨w5.heap.size, 2, none⟩ = some (.int .i64 m))) (exact hcell HG)
    (first | (go_at_call 12; ((with_reducible refine (hmd _).mono ?_); rintro e w9 ⟨rfl, hg9⟩; replace HG := grown_trans HG hg9)))
  have X6 := X5.later HG
  obtain ⟨q0, q1, q2, q3, q4⟩ := two_boxes (grown_trans hg1 X6.since)
  clear y0 y1 y2 z0 z1 z2 hcell
  go_wp2_with (first | (go_at_call 21; ((with_reducible refine (hlo _ _ _ _ _ _ X6.tx).mono ?_); rintro e w7 ⟨rfl, hg7⟩; have X7 := X6.later hg7; obtain ⟨q0, q1, q2, q3, q4⟩ := two_boxes (grown_trans hg1 X7.since))) | (go_at_call 22; ((with_reducible refine (hst _ _ _ _ _ _ X7.tx).mono ?_); rintro e w8 ⟨rfl, ht8⟩; obtain ⟨R8, X8, _⟩ := X7.step ht8)) | (go_at_call 17; ((with_reducible refine (hr2 _ _ _ _ _ _ X8.tx).mono ?_); rintro e w9 ⟨rfl, hg9⟩; have hgb := World.grownBy_alloc w9 (.cells #[.int .u64 S2, .bool U2, .int .i64 O2] 26) none; have X9 := X8.later (grown_trans hg9 hgb); obtain ⟨q0, q1, q2, q3, q4⟩ := two_boxes (grown_trans hg1 X9.since))))
  clear q0 q1 q2 q3 q4
  rcases HC.out with ⟨rfl, rfl, rfl, rfl, rfl⟩ | ⟨hne, rfl | ⟨rfl, hd | ⟨rfl, hd | ⟨rfl, hd⟩⟩⟩⟩
  · have hcell : ∀ {wr : World}, (w9.alloc (.cells #[.int .u64 s, .bool u, .int .i64 m] 26)).grownBy wr none →
        (wr.cell? ⟨w.heap.size, 0, none⟩ = some (.int .u64 s) ∧ wr.cell? ⟨w.heap.size, 1, none⟩ = some (.bool u) ∧ wr.cell? ⟨w.heap.size, 2, none⟩ = some (.int .i64 m)) ∧ (wr.cell? ⟨w.heap.size + 1, 0, none⟩ = some (.int .u64 off) ∧ wr.cell? ⟨w.heap.size + 1, 1, none⟩ = some (.int .u64 y)) ∧
        (wr.cell? ⟨w9.heap.size, 0, none⟩ = some (.int .u64 s) ∧ wr.cell? ⟨w9.heap.size, 1, none⟩ = some (.bool u) ∧ wr.cell? ⟨w9.heap.size, 2, none⟩ = some (.int .i64 m)) := fun {wr} hg => by
      obtain ⟨k0, k1, k2, k3, k4⟩ := two_boxes (grown_trans hg1 (grown_trans X9.since hg))
      exact ⟨⟨k0, k1, k2⟩, ⟨k3, k4⟩, tag_cells (tag_first hg)⟩
    have HG : (w9.alloc (.cells #[.int .u64 s, .bool u, .int .i64 m] 26)).grownBy (w9.alloc (.cells #[.int .u64 s, .bool u, .int .i64 m] 26)).drew none := grown_drew (grown_refl _ _)
    refine wp_region_held_drew (S := fun wr => (wr.cell? ⟨w.heap.size, 0, none⟩ = some (.int .u64 s) ∧ wr.cell? ⟨w.heap.size, 1, none⟩ = some (.bool u) ∧ wr.cell? ⟨w.heap.size, 2, none⟩ = some (.int .i64 m)) ∧ (wr.cell? ⟨w.heap.size + 1, 0, none⟩ = some (.int .u64 off) ∧ wr.cell? ⟨w.heap.size + 1, 1, none⟩ = some (.int .u64 y)) ∧
        (wr.cell? ⟨w9.heap.size, 0, none⟩ = some (.int .u64 s) ∧ wr.cell? ⟨w9.heap.size, 1, none⟩ = some (.bool u) ∧ wr.cell? ⟨w9.heap.size, 2, none⟩ = some (.int .i64 m))) (by kernel_rfl) (hcell HG) (fun hHeld => ?_)
    refine held_yes 0 80 (v := ?_) rfl rfl (by kernel_rfl) (by kernel_rfl) (by kernel_rfl) (fun _ _ _ h => h) (by kernel_rfl) ?hy0 hHeld ?hr0
    case hy0 => (intro w hSw; (try dsimp only at hSw); go_simp; try (with_reducible rfl))
    case hr0 =>
    simp only [Act.put, List.setIfInBounds_toArray, List.set_cons_zero, List.set_cons_succ]
    refine held_yes 1 81 (v := ?_) rfl rfl (by kernel_rfl) (by kernel_rfl) (by kernel_rfl) (fun _ _ _ h => h) (by kernel_rfl) ?hy1 hHeld ?hr1
    case hy1 => (intro w hSw; (try dsimp only at hSw); go_simp; try (with_reducible rfl))
    case hr1 =>
    simp only [Act.put, List.setIfInBounds_toArray, List.set_cons_zero, List.set_cons_succ]
    refine held_yes 2 82 (v := ?_) rfl rfl (by kernel_rfl) (by kernel_rfl) (by kernel_rfl) (fun _ _ _ h => h) (by kernel_rfl) ?hy2 hHeld ?hr2
    case hy2 => (intro w hSw; (try dsimp only at hSw); go_simp; try (with_reducible rfl))
    case hr2 =>
    simp only [Act.put, List.setIfInBounds_toArray, List.set_cons_zero, List.set_cons_succ]
    refine held_yes 3 83 (v := ?_) rfl rfl (by kernel_rfl) (by kernel_rfl) (by kernel_rfl) (fun _ _ _ h => h) (by kernel_rfl) ?hy3 hHeld ?hr3
    case hy3 => (intro w hSw; (try dsimp only at hSw); go_simp; try (with_reducible rfl))
    case hr3 =>
    simp only [Act.put, List.setIfInBounds_toArray, List.set_cons_zero, List.set_cons_succ]
    refine held_yes 4 84 (v := ?_) rfl rfl (by kernel_rfl) (by kernel_rfl) (by kernel_rfl) (fun _ _ _ h => h) (by kernel_rfl) ?hy4 hHeld ?hr4
    case hy4 => (intro w hSw; (try dsimp only at hSw); go_simp; try (with_reducible rfl))
    case hr4 =>
    simp only [Act.put, List.setIfInBounds_toArray, List.set_cons_zero, List.set_cons_succ]
    refine held_yes 5 85 (v := ?_) rfl rfl (by kernel_rfl) (by kernel_rfl) (by kernel_rfl) (fun _ _ _ h => h) (by kernel_rfl) ?hy5 hHeld ?hr5
    case hy5 => (intro w hSw; (try dsimp only at hSw); go_simp; try (with_reducible rfl))
    case hr5 =>
    simp only [Act.put, List.setIfInBounds_toArray, List.set_cons_zero, List.set_cons_succ]
    refine held_yes 6 86 (v := ?_) rfl rfl (by kernel_rfl) (by kernel_rfl) (by kernel_rfl) (fun _ _ _ h => h) (by kernel_rfl) ?hy6 hHeld ?hr6
    case hy6 => (intro w hSw; (try dsimp only at hSw); go_simp; try (with_reducible rfl))
    case hr6 =>
    simp only [Act.put, List.setIfInBounds_toArray, List.set_cons_zero, List.set_cons_succ]
    refine held_yes 10 90 (v := ?_) rfl rfl (by kernel_rfl) (by kernel_rfl) (by kernel_rfl) (fun _ _ _ h => h) (by kernel_rfl) ?hy10 hHeld ?hr10
    case hy10 => (intro w hSw; (try dsimp only at hSw); go_simp; try (with_reducible rfl))
    case hr10 =>
    simp only [Act.put, List.setIfInBounds_toArray, List.set_cons_zero, List.set_cons_succ]
    refine wpAnyH_ready (rs := [7]) (by kernel_rfl) (by simp) (AllReadyH.cons rfl (fun K hK => ?_) AllReadyH.nil)
    clear hHeld
    go_simp
    ((first | (go_at_call 12; ((with_reducible refine (hmd _).mono ?_); rintro e wz ⟨rfl, hgz⟩; replace HG := grown_trans HG hgz)) | (go_at_call 21; ((with_reducible refine (hl16 _ _ _ _ _ _ (X9.later HG).tx).mono ?_); rintro e wz ⟨rfl, hgz⟩; replace HG := grown_trans HG hgz))))
    refine hK.out _ _ (hcell HG) (fun hHeld => ?_)
    clear hK K
    try simp only [Act.put, List.setIfInBounds_toArray, List.set_cons_zero, List.set_cons_succ]
    refine held_yes 8 88 (v := ?_) rfl rfl (by kernel_rfl) (by kernel_rfl) (by kernel_rfl) (fun _ _ _ h => h) (by kernel_rfl) ?hy8 hHeld ?hr8
    case hy8 => (intro w hSw; (try dsimp only at hSw); go_simp; try (with_reducible rfl))
    case hr8 =>
    simp only [Act.put, List.setIfInBounds_toArray, List.set_cons_zero, List.set_cons_succ]
    refine held_yes 9 89 (v := ?_) rfl rfl (by kernel_rfl) (by kernel_rfl) (by kernel_rfl) (fun _ _ _ h => h) (by kernel_rfl) ?hy9 hHeld ?hr9
    case hy9 => (intro w hSw; (try dsimp only at hSw); go_simp; try (with_reducible rfl))
    case hr9 =>
    simp only [Act.put, List.setIfInBounds_toArray, List.set_cons_zero, List.set_cons_succ]
    refine held_yes 11 91 (v := ?_) rfl rfl (by kernel_rfl) (by kernel_rfl) (by kernel_rfl) (fun _ _ _ h => h) (by kernel_rfl) ?hy11 hHeld ?hr11
    case hy11 => (intro w hSw; (try dsimp only at hSw); go_simp; try (with_reducible rfl))
    case hr11 =>
    simp only [Act.put, List.setIfInBounds_toArray, List.set_cons_zero, List.set_cons_succ]
    refine held_yes 12 92 (v := ?_) rfl rfl (by kernel_rfl) (by kernel_rfl) (by kernel_rfl) (fun _ _ _ h => h) (by kernel_rfl) ?hy12 hHeld ?hr12
    case hy12 => (intro w hSw; (try dsimp only at hSw); go_simp; try (with_reducible rfl))
    case hr12 =>
    simp only [Act.put, List.setIfInBounds_toArray, List.set_cons_zero, List.set_cons_succ]
    refine held_yes 13 93 (v := ?_) rfl rfl (by kernel_rfl) (by kernel_rfl) (by kernel_rfl) (fun _ _ _ h => h) (by kernel_rfl) ?hy13 hHeld ?hr13
    case hy13 => (intro w hSw; (try dsimp only at hSw); go_simp; try (with_reducible rfl))
    case hr13 =>
    simp only [Act.put, List.setIfInBounds_toArray, List.set_cons_zero, List.set_cons_succ]
    refine held_yes 14 94 (v := ?_) rfl rfl (by kernel_rfl) (by kernel_rfl) (by kernel_rfl) (fun _ _ _ h => h) (by kernel_rfl) ?hy14 hHeld ?hr14
    case hy14 => (intro w hSw; (try dsimp only at hSw); go_simp; try (with_reducible rfl))
    case hr14 =>
    simp only [Act.put, List.setIfInBounds_toArray, List.set_cons_zero, List.set_cons_succ]
    refine held_yes 15 95 (v := ?_) rfl rfl (by kernel_rfl) (by kernel_rfl) (by kernel_rfl) (fun _ _ _ h => h) (by kernel_rfl) ?hy15 hHeld ?hr15
    case hy15 => (intro w hSw; (try dsimp only at hSw); go_simp; try (with_reducible rfl))
    case hr15 =>
    simp only [Act.put, List.setIfInBounds_toArray, List.set_cons_zero, List.set_cons_succ]
    refine held_yes 16 96 (v := ?_) rfl rfl (by kernel_rfl) (by kernel_rfl) (by kernel_rfl) (fun _ _ _ h => h) (by kernel_rfl) ?hy16 hHeld ?hr16
    case hy16 => (intro w hSw; (try dsimp only at hSw); go_simp; try (with_reducible rfl))
    case hr16 =>
    simp only [Act.put, List.setIfInBounds_toArray, List.set_cons_zero, List.set_cons_succ]
    refine held_yes 17 97 (v := ?_) rfl rfl (by kernel_rfl) (by kernel_rfl) (by kernel_rfl) (fun _ _ _ h => h) (by kernel_rfl) ?hy17 hHeld ?hr17
    case hy17 => (intro w hSw; (try dsimp only at hSw); go_simp; try (with_reducible rfl))
    case hr17 =>
    simp only [Act.put, List.setIfInBounds_toArray, List.set_cons_zero, List.set_cons_succ]
    refine held_yes 18 98 (v := ?_) rfl rfl (by kernel_rfl) (by kernel_rfl) (by kernel_rfl) (fun _ _ _ h => h) (by kernel_rfl) ?hy18 hHeld ?hr18
    case hy18 => (intro w hSw; (try dsimp only at hSw); go_simp; try (with_reducible rfl))
    case hr18 =>
    simp only [Act.put, List.setIfInBounds_toArray, List.set_cons_zero, List.set_cons_succ]
    refine held_yes 19 99 (v := ?_) rfl rfl (by kernel_rfl) (by kernel_rfl) (by kernel_rfl) (fun _ _ _ h => h) (by kernel_rfl) ?hy19 hHeld ?hr19
    case hy19 => (intro w hSw; (try dsimp only at hSw); go_simp; try (with_reducible rfl))
    case hr19 =>
    simp only [Act.put, List.setIfInBounds_toArray, List.set_cons_zero, List.set_cons_succ]
    refine held_yes 20 100 (v := ?_) rfl rfl (by kernel_rfl) (by kernel_rfl) (by kernel_rfl) (fun _ _ _ h => h) (by kernel_rfl) ?hy20 hHeld ?hr20
    case hy20 => (intro w hSw; (try dsimp only at hSw); go_simp; try (with_reducible rfl))
    case hr20 =>
    simp only [Act.put, List.setIfInBounds_toArray, List.set_cons_zero, List.set_cons_succ]
    refine held_yes 21 101 (v := ?_) rfl rfl (by kernel_rfl) (by kernel_rfl) (by kernel_rfl) (fun _ _ _ h => h) (by kernel_rfl) ?hy21 hHeld ?hr21
    case hy21 => (intro w hSw; (try dsimp only at hSw); go_simp; try (with_reducible rfl))
    case hr21 =>
    simp only [Act.put, List.setIfInBounds_toArray, List.set_cons_zero, List.set_cons_succ]
    refine held_skip 22 102 rfl rfl (by kernel_rfl) (by kernel_rfl) (by kernel_rfl) (fun _ _ _ h => h) (by kernel_rfl) hHeld ?_
    simp only [Act.put, List.setIfInBounds_toArray, List.set_cons_zero, List.set_cons_succ]
    refine held_skip 23 103 rfl rfl (by kernel_rfl) (by kernel_rfl) (by kernel_rfl) (fun _ _ _ h => h) (by kernel_rfl) hHeld ?_
    simp only [Act.put, List.setIfInBounds_toArray, List.set_cons_zero, List.set_cons_succ]
    refine held_skip 24 104 rfl rfl (by kernel_rfl) (by kernel_rfl) (by kernel_rfl) (fun _ _ _ h => h) (by kernel_rfl) hHeld ?_
    simp only [Act.put, List.setIfInBounds_toArray, List.set_cons_zero, List.set_cons_succ]
    refine held_skip 25 105 rfl rfl (by kernel_rfl) (by kernel_rfl) (by kernel_rfl) (fun _ _ _ h => h) (by kernel_rfl) hHeld ?_
    simp only [Act.put, List.setIfInBounds_toArray, List.set_cons_zero, List.set_cons_succ]
    refine held_skip 26 106 rfl rfl (by kernel_rfl) (by kernel_rfl) (by kernel_rfl) (fun _ _ _ h => h) (by kernel_rfl) hHeld ?_
    simp only [Act.put, List.setIfInBounds_toArray, List.set_cons_zero, List.set_cons_succ]
    refine held_skip 27 107 rfl rfl (by kernel_rfl) (by kernel_rfl) (by kernel_rfl) (fun _ _ _ h => h) (by kernel_rfl) hHeld ?_
    simp only [Act.put, List.setIfInBounds_toArray, List.set_cons_zero, List.set_cons_succ]
    refine held_skip 28 108 rfl rfl (by kernel_rfl) (by kernel_rfl) (by kernel_rfl) (fun _ _ _ h => h) (by kernel_rfl) hHeld ?_
    simp only [Act.put, List.setIfInBounds_toArray, List.set_cons_zero, List.set_cons_succ]
    refine held_yes 29 109 (v := ?_) rfl rfl (by kernel_rfl) (by kernel_rfl) (by kernel_rfl) (fun _ _ _ h => h) (by kernel_rfl) ?hy29 hHeld ?hr29
    case hy29 => (intro w hSw; (try dsimp only at hSw); go_simp; try (with_reducible rfl))
    case hr29 =>
    simp only [Act.put, List.setIfInBounds_toArray, List.set_cons_zero, List.set_cons_succ]
    refine held_yes 30 110 (v := ?_) rfl rfl (by kernel_rfl) (by kernel_rfl) (by kernel_rfl) (fun _ _ _ h => h) (by kernel_rfl) ?hy30 hHeld ?hr30
    case hy30 => (intro w hSw; (try dsimp only at hSw); go_simp; try (with_reducible rfl))
    case hr30 =>
    simp only [Act.put, List.setIfInBounds_toArray, List.set_cons_zero, List.set_cons_succ]
    refine held_yes 31 111 (v := ?_) rfl rfl (by kernel_rfl) (by kernel_rfl) (by kernel_rfl) (fun _ _ _ h => h) (by kernel_rfl) ?hy31 hHeld ?hr31
    case hy31 => (intro w hSw; (try dsimp only at hSw); go_simp; try (with_reducible rfl))
    case hr31 =>
    simp only [Act.put, List.setIfInBounds_toArray, List.set_cons_zero, List.set_cons_succ]
    refine held_yes 32 112 (v := ?_) rfl rfl (by kernel_rfl) (by kernel_rfl) (by kernel_rfl) (fun _ _ _ h => h) (by kernel_rfl) ?hy32 hHeld ?hr32
    case hy32 => (intro w hSw; (try dsimp only at hSw); go_simp; try (with_reducible rfl))
    case hr32 =>
    simp only [Act.put, List.setIfInBounds_toArray, List.set_cons_zero, List.set_cons_succ]
    refine held_yes 33 6 (v := ?_) rfl rfl (by kernel_rfl) (by kernel_rfl) (by kernel_rfl) (fun _ _ _ h => h) (by kernel_rfl) ?hy33 hHeld ?hr33
    case hy33 => (intro w hSw; (try dsimp only at hSw); go_simp; try (with_reducible rfl))
    case hr33 =>
    simp only [Act.put, List.setIfInBounds_toArray, List.set_cons_zero, List.set_cons_succ]
    refine wpAnyH_done (by kernel_rfl) ?_ _
    go_wp2
    go_ret
    exact ⟨ret_bool' (by first | (simp; done) | (simp; omega)), grown_trans hg0 (grown_trans hg1 (X9.later HG).since)⟩
  · have hcell : ∀ {wr : World}, (w9.alloc (.cells #[.int .u64 S2, .bool U2, .int .i64 O2] 26)).grownBy wr none →
        (wr.cell? ⟨w.heap.size, 0, none⟩ = some (.int .u64 s) ∧ wr.cell? ⟨w.heap.size, 1, none⟩ = some (.bool u) ∧ wr.cell? ⟨w.heap.size, 2, none⟩ = some (.int .i64 m)) ∧ (wr.cell? ⟨w.heap.size + 1, 0, none⟩ = some (.int .u64 off) ∧ wr.cell? ⟨w.heap.size + 1, 1, none⟩ = some (.int .u64 y)) ∧
        (wr.cell? ⟨w9.heap.size, 0, none⟩ = some (.int .u64 S2) ∧ wr.cell? ⟨w9.heap.size, 1, none⟩ = some (.bool U2) ∧ wr.cell? ⟨w9.heap.size, 2, none⟩ = some (.int .i64 O2)) := fun {wr} hg => by
      obtain ⟨k0, k1, k2, k3, k4⟩ := two_boxes (grown_trans hg1 (grown_trans X9.since hg))
      exact ⟨⟨k0, k1, k2⟩, ⟨k3, k4⟩, tag_cells (tag_first hg)⟩
    have HG : (w9.alloc (.cells #[.int .u64 S2, .bool U2, .int .i64 O2] 26)).grownBy (w9.alloc (.cells #[.int .u64 S2, .bool U2, .int .i64 O2] 26)).drew none := grown_drew (grown_refl _ _)
    refine wp_region_held_drew (S := fun wr => (wr.cell? ⟨w.heap.size, 0, none⟩ = some (.int .u64 s) ∧ wr.cell? ⟨w.heap.size, 1, none⟩ = some (.bool u) ∧ wr.cell? ⟨w.heap.size, 2, none⟩ = some (.int .i64 m)) ∧ (wr.cell? ⟨w.heap.size + 1, 0, none⟩ = some (.int .u64 off) ∧ wr.cell? ⟨w.heap.size + 1, 1, none⟩ = some (.int .u64 y)) ∧
        (wr.cell? ⟨w9.heap.size, 0, none⟩ = some (.int .u64 S2) ∧ wr.cell? ⟨w9.heap.size, 1, none⟩ = some (.bool U2) ∧ wr.cell? ⟨w9.heap.size, 2, none⟩ = some (.int .i64 O2))) (by kernel_rfl) (hcell HG) (fun hHeld => ?_)
    refine held_yes 0 80 (v := ?_) rfl rfl (by kernel_rfl) (by kernel_rfl) (by kernel_rfl) (fun _ _ _ h => h) (by kernel_rfl) ?hy0 hHeld ?hr0
    case hy0 => (intro w hSw; (try dsimp only at hSw); go_simp; try (with_reducible rfl))
    case hr0 =>
    simp only [Act.put, List.setIfInBounds_toArray, List.set_cons_zero, List.set_cons_succ]
    refine held_yes 1 81 (v := ?_) rfl rfl (by kernel_rfl) (by kernel_rfl) (by kernel_rfl) (fun _ _ _ h => h) (by kernel_rfl) ?hy1 hHeld ?hr1
    case hy1 => (intro w hSw; (try dsimp only at hSw); go_simp; try (with_reducible rfl))
    case hr1 =>
    simp only [Act.put, List.setIfInBounds_toArray, List.set_cons_zero, List.set_cons_succ]
    refine held_yes 2 82 (v := ?_) rfl rfl (by kernel_rfl) (by kernel_rfl) (by kernel_rfl) (fun _ _ _ h => h) (by kernel_rfl) ?hy2 hHeld ?hr2
    case hy2 => (intro w hSw; (try dsimp only at hSw); go_simp; try (with_reducible rfl))
    case hr2 =>
    simp only [Act.put, List.setIfInBounds_toArray, List.set_cons_zero, List.set_cons_succ]
    refine held_yes 3 83 (v := ?_) rfl rfl (by kernel_rfl) (by kernel_rfl) (by kernel_rfl) (fun _ _ _ h => h) (by kernel_rfl) ?hy3 hHeld ?hr3
    case hy3 => (intro w hSw; (try dsimp only at hSw); go_simp; try (with_reducible rfl))
    case hr3 =>
    simp only [Act.put, List.setIfInBounds_toArray, List.set_cons_zero, List.set_cons_succ]
    refine held_yes 4 84 (v := ?_) rfl rfl (by kernel_rfl) (by kernel_rfl) (by kernel_rfl) (fun _ _ _ h => h) (by kernel_rfl) ?hy4 hHeld ?hr4
    case hy4 => (intro w hSw; (try dsimp only at hSw); go_simp; try (with_reducible rfl))
    case hr4 =>
    simp only [Act.put, List.setIfInBounds_toArray, List.set_cons_zero, List.set_cons_succ]
    refine held_skip 5 85 rfl rfl (by kernel_rfl) (by kernel_rfl) (by kernel_rfl) (fun _ _ _ h => h) (by kernel_rfl) hHeld ?_
    simp only [Act.put, List.setIfInBounds_toArray, List.set_cons_zero, List.set_cons_succ]
    refine held_skip 6 86 rfl rfl (by kernel_rfl) (by kernel_rfl) (by kernel_rfl) (fun _ _ _ h => h) (by kernel_rfl) hHeld ?_
    simp only [Act.put, List.setIfInBounds_toArray, List.set_cons_zero, List.set_cons_succ]
    refine held_skip 7 87 rfl rfl (by kernel_rfl) (by kernel_rfl) (by kernel_rfl) (fun _ _ _ h => h) (by kernel_rfl) hHeld ?_
    simp only [Act.put, List.setIfInBounds_toArray, List.set_cons_zero, List.set_cons_succ]
    refine held_skip 8 88 rfl rfl (by kernel_rfl) (by kernel_rfl) (by kernel_rfl) (fun _ _ _ h => h) (by kernel_rfl) hHeld ?_
    simp only [Act.put, List.setIfInBounds_toArray, List.set_cons_zero, List.set_cons_succ]
    refine held_yes 9 89 (v := ?_) rfl rfl (by kernel_rfl) (by kernel_rfl) (by kernel_rfl) (fun _ _ _ h => h) (by kernel_rfl) ?hy9 hHeld ?hr9
    case hy9 => (intro w hSw; (try dsimp only at hSw); go_simp; try (with_reducible rfl))
    case hr9 =>
    simp only [Act.put, List.setIfInBounds_toArray, List.set_cons_zero, List.set_cons_succ]
    refine held_yes 10 90 (v := ?_) rfl rfl (by kernel_rfl) (by kernel_rfl) (by kernel_rfl) (fun _ _ _ h => h) (by kernel_rfl) ?hy10 hHeld ?hr10
    case hy10 => (intro w hSw; (try dsimp only at hSw); go_simp; try (with_reducible rfl))
    case hr10 =>
    simp only [Act.put, List.setIfInBounds_toArray, List.set_cons_zero, List.set_cons_succ]
    refine held_yes 11 91 (v := ?_) rfl rfl (by kernel_rfl) (by kernel_rfl) (by kernel_rfl) (fun _ _ _ h => h) (by kernel_rfl) ?hy11 hHeld ?hr11
    case hy11 => (intro w hSw; (try dsimp only at hSw); go_simp; try (with_reducible rfl))
    case hr11 =>
    simp only [Act.put, List.setIfInBounds_toArray, List.set_cons_zero, List.set_cons_succ]
    refine held_yes 12 92 (v := ?_) rfl rfl (by kernel_rfl) (by kernel_rfl) (by kernel_rfl) (fun _ _ _ h => h) (by kernel_rfl) ?hy12 hHeld ?hr12
    case hy12 => (intro w hSw; (try dsimp only at hSw); go_simp; try (with_reducible rfl))
    case hr12 =>
    simp only [Act.put, List.setIfInBounds_toArray, List.set_cons_zero, List.set_cons_succ]
    refine held_yes 13 93 (v := ?_) rfl rfl (by kernel_rfl) (by kernel_rfl) (by kernel_rfl) (fun _ _ _ h => h) (by kernel_rfl) ?hy13 hHeld ?hr13
    case hy13 => (intro w hSw; (try dsimp only at hSw); go_simp; try (with_reducible rfl))
    case hr13 =>
    simp only [Act.put, List.setIfInBounds_toArray, List.set_cons_zero, List.set_cons_succ]
    refine held_yes 14 94 (v := ?_) rfl rfl (by kernel_rfl) (by kernel_rfl) (by kernel_rfl) (fun _ _ _ h => h) (by kernel_rfl) ?hy14 hHeld ?hr14
    case hy14 => (intro w hSw; (try dsimp only at hSw); go_simp; try (with_reducible rfl))
    case hr14 =>
    simp only [Act.put, List.setIfInBounds_toArray, List.set_cons_zero, List.set_cons_succ]
    refine held_yes 15 95 (v := ?_) rfl rfl (by kernel_rfl) (by kernel_rfl) (by kernel_rfl) (fun _ _ _ h => h) (by kernel_rfl) ?hy15 hHeld ?hr15
    case hy15 => (intro w hSw; (try dsimp only at hSw); go_simp; try (with_reducible rfl))
    case hr15 =>
    simp only [Act.put, List.setIfInBounds_toArray, List.set_cons_zero, List.set_cons_succ]
    refine held_yes 16 96 (v := ?_) rfl rfl (by kernel_rfl) (by kernel_rfl) (by kernel_rfl) (fun _ _ _ h => h) (by kernel_rfl) ?hy16 hHeld ?hr16
    case hy16 => (intro w hSw; (try dsimp only at hSw); go_simp; try (with_reducible rfl))
    case hr16 =>
    simp only [Act.put, List.setIfInBounds_toArray, List.set_cons_zero, List.set_cons_succ]
    refine held_yes 17 97 (v := ?_) rfl rfl (by kernel_rfl) (by kernel_rfl) (by kernel_rfl) (fun _ _ _ h => h) (by kernel_rfl) ?hy17 hHeld ?hr17
    case hy17 => (intro w hSw; (try dsimp only at hSw); go_simp; try (with_reducible rfl))
    case hr17 =>
    simp only [Act.put, List.setIfInBounds_toArray, List.set_cons_zero, List.set_cons_succ]
    refine held_skip 18 98 rfl rfl (by kernel_rfl) (by kernel_rfl) (by kernel_rfl) (fun _ _ _ h => h) (by kernel_rfl) hHeld ?_
    simp only [Act.put, List.setIfInBounds_toArray, List.set_cons_zero, List.set_cons_succ]
    refine held_skip 19 99 rfl rfl (by kernel_rfl) (by kernel_rfl) (by kernel_rfl) (fun _ _ _ h => h) (by kernel_rfl) hHeld ?_
    simp only [Act.put, List.setIfInBounds_toArray, List.set_cons_zero, List.set_cons_succ]
    refine held_skip 20 100 rfl rfl (by kernel_rfl) (by kernel_rfl) (by kernel_rfl) (fun _ _ _ h => h) (by kernel_rfl) hHeld ?_
    simp only [Act.put, List.setIfInBounds_toArray, List.set_cons_zero, List.set_cons_succ]
    refine held_skip 21 101 rfl rfl (by kernel_rfl) (by kernel_rfl) (by kernel_rfl) (fun _ _ _ h => h) (by kernel_rfl) hHeld ?_
    simp only [Act.put, List.setIfInBounds_toArray, List.set_cons_zero, List.set_cons_succ]
    refine held_skip 22 102 rfl rfl (by kernel_rfl) (by kernel_rfl) (by kernel_rfl) (fun _ _ _ h => h) (by kernel_rfl) hHeld ?_
    simp only [Act.put, List.setIfInBounds_toArray, List.set_cons_zero, List.set_cons_succ]
    refine held_skip 23 103 rfl rfl (by kernel_rfl) (by kernel_rfl) (by kernel_rfl) (fun _ _ _ h => h) (by kernel_rfl) hHeld ?_
    simp only [Act.put, List.setIfInBounds_toArray, List.set_cons_zero, List.set_cons_succ]
    refine held_skip 24 104 rfl rfl (by kernel_rfl) (by kernel_rfl) (by kernel_rfl) (fun _ _ _ h => h) (by kernel_rfl) hHeld ?_
    simp only [Act.put, List.setIfInBounds_toArray, List.set_cons_zero, List.set_cons_succ]
    refine held_skip 25 105 rfl rfl (by kernel_rfl) (by kernel_rfl) (by kernel_rfl) (fun _ _ _ h => h) (by kernel_rfl) hHeld ?_
    simp only [Act.put, List.setIfInBounds_toArray, List.set_cons_zero, List.set_cons_succ]
    refine held_skip 26 106 rfl rfl (by kernel_rfl) (by kernel_rfl) (by kernel_rfl) (fun _ _ _ h => h) (by kernel_rfl) hHeld ?_
    simp only [Act.put, List.setIfInBounds_toArray, List.set_cons_zero, List.set_cons_succ]
    refine held_skip 27 107 rfl rfl (by kernel_rfl) (by kernel_rfl) (by kernel_rfl) (fun _ _ _ h => h) (by kernel_rfl) hHeld ?_
    simp only [Act.put, List.setIfInBounds_toArray, List.set_cons_zero, List.set_cons_succ]
    refine held_skip 28 108 rfl rfl (by kernel_rfl) (by kernel_rfl) (by kernel_rfl) (fun _ _ _ h => h) (by kernel_rfl) hHeld ?_
    simp only [Act.put, List.setIfInBounds_toArray, List.set_cons_zero, List.set_cons_succ]
    refine held_skip 29 109 rfl rfl (by kernel_rfl) (by kernel_rfl) (by kernel_rfl) (fun _ _ _ h => h) (by kernel_rfl) hHeld ?_
    simp only [Act.put, List.setIfInBounds_toArray, List.set_cons_zero, List.set_cons_succ]
    refine held_yes 30 110 (v := ?_) rfl rfl (by kernel_rfl) (by kernel_rfl) (by kernel_rfl) (fun _ _ _ h => h) (by kernel_rfl) ?hy30 hHeld ?hr30
    case hy30 => (intro w hSw; (try dsimp only at hSw); go_simp; try (with_reducible rfl))
    case hr30 =>
    simp only [Act.put, List.setIfInBounds_toArray, List.set_cons_zero, List.set_cons_succ]
    refine held_yes 31 111 (v := ?_) rfl rfl (by kernel_rfl) (by kernel_rfl) (by kernel_rfl) (fun _ _ _ h => h) (by kernel_rfl) ?hy31 hHeld ?hr31
    case hy31 => (intro w hSw; (try dsimp only at hSw); go_simp; try (with_reducible rfl))
    case hr31 =>
    simp only [Act.put, List.setIfInBounds_toArray, List.set_cons_zero, List.set_cons_succ]
    refine held_yes 32 112 (v := ?_) rfl rfl (by kernel_rfl) (by kernel_rfl) (by kernel_rfl) (fun _ _ _ h => h) (by kernel_rfl) ?hy32 hHeld ?hr32
    case hy32 => (intro w hSw; (try dsimp only at hSw); go_simp; try (with_reducible rfl))
    case hr32 =>
    simp only [Act.put, List.setIfInBounds_toArray, List.set_cons_zero, List.set_cons_succ]
    refine held_yes 33 6 (v := ?_) rfl rfl (by kernel_rfl) (by kernel_rfl) (by kernel_rfl) (fun _ _ _ h => h) (by kernel_rfl) ?hy33 hHeld ?hr33
    case hy33 => (intro w hSw; (try dsimp only at hSw); go_simp; try (with_reducible rfl))
    case hr33 =>
    simp only [Act.put, List.setIfInBounds_toArray, List.set_cons_zero, List.set_cons_succ]
    refine wpAnyH_done (by kernel_rfl) ?_ _
    go_wp2
    go_ret
    exact ⟨ret_bool' (by first | (simp; done) | (simp; omega)), grown_trans hg0 (grown_trans hg1 (X9.later HG).since)⟩
  · have hcell : ∀ {wr : World}, (w9.alloc (.cells #[.int .u64 S2, .bool U2, .int .i64 O2] 26)).grownBy wr none →
        (wr.cell? ⟨w.heap.size, 0, none⟩ = some (.int .u64 s) ∧ wr.cell? ⟨w.heap.size, 1, none⟩ = some (.bool u) ∧ wr.cell? ⟨w.heap.size, 2, none⟩ = some (.int .i64 m)) ∧ (wr.cell? ⟨w.heap.size + 1, 0, none⟩ = some (.int .u64 off) ∧ wr.cell? ⟨w.heap.size + 1, 1, none⟩ = some (.int .u64 y)) ∧
        (wr.cell? ⟨w9.heap.size, 0, none⟩ = some (.int .u64 S2) ∧ wr.cell? ⟨w9.heap.size, 1, none⟩ = some (.bool U2) ∧ wr.cell? ⟨w9.heap.size, 2, none⟩ = some (.int .i64 O2)) := fun {wr} hg => by
      obtain ⟨k0, k1, k2, k3, k4⟩ := two_boxes (grown_trans hg1 (grown_trans X9.since hg))
      exact ⟨⟨k0, k1, k2⟩, ⟨k3, k4⟩, tag_cells (tag_first hg)⟩
    have HG : (w9.alloc (.cells #[.int .u64 S2, .bool U2, .int .i64 O2] 26)).grownBy (w9.alloc (.cells #[.int .u64 S2, .bool U2, .int .i64 O2] 26)).drew none := grown_drew (grown_refl _ _)
    refine wp_region_held_drew (S := fun wr => (wr.cell? ⟨w.heap.size, 0, none⟩ = some (.int .u64 s) ∧ wr.cell? ⟨w.heap.size, 1, none⟩ = some (.bool u) ∧ wr.cell? ⟨w.heap.size, 2, none⟩ = some (.int .i64 m)) ∧ (wr.cell? ⟨w.heap.size + 1, 0, none⟩ = some (.int .u64 off) ∧ wr.cell? ⟨w.heap.size + 1, 1, none⟩ = some (.int .u64 y)) ∧
        (wr.cell? ⟨w9.heap.size, 0, none⟩ = some (.int .u64 S2) ∧ wr.cell? ⟨w9.heap.size, 1, none⟩ = some (.bool U2) ∧ wr.cell? ⟨w9.heap.size, 2, none⟩ = some (.int .i64 O2))) (by kernel_rfl) (hcell HG) (fun hHeld => ?_)
    refine held_yes 0 80 (v := ?_) rfl rfl (by kernel_rfl) (by kernel_rfl) (by kernel_rfl) (fun _ _ _ h => h) (by kernel_rfl) ?hy0 hHeld ?hr0
    case hy0 => (intro w hSw; (try dsimp only at hSw); go_simp; try (with_reducible rfl))
    case hr0 =>
    simp only [Act.put, List.setIfInBounds_toArray, List.set_cons_zero, List.set_cons_succ]
    refine held_yes 1 81 (v := ?_) rfl rfl (by kernel_rfl) (by kernel_rfl) (by kernel_rfl) (fun _ _ _ h => h) (by kernel_rfl) ?hy1 hHeld ?hr1
    case hy1 => (intro w hSw; (try dsimp only at hSw); go_simp; try (with_reducible rfl))
    case hr1 =>
    simp only [Act.put, List.setIfInBounds_toArray, List.set_cons_zero, List.set_cons_succ]
    refine held_yes 2 82 (v := ?_) rfl rfl (by kernel_rfl) (by kernel_rfl) (by kernel_rfl) (fun _ _ _ h => h) (by kernel_rfl) ?hy2 hHeld ?hr2
    case hy2 => (intro w hSw; (try dsimp only at hSw); go_simp; try (with_reducible rfl))
    case hr2 =>
    simp only [Act.put, List.setIfInBounds_toArray, List.set_cons_zero, List.set_cons_succ]
    refine held_yes 3 83 (v := ?_) rfl rfl (by kernel_rfl) (by kernel_rfl) (by kernel_rfl) (fun _ _ _ h => h) (by kernel_rfl) ?hy3 hHeld ?hr3
    case hy3 => (intro w hSw; (try dsimp only at hSw); go_simp; try (with_reducible rfl))
    case hr3 =>
    simp only [Act.put, List.setIfInBounds_toArray, List.set_cons_zero, List.set_cons_succ]
    refine held_yes 4 84 (v := ?_) rfl rfl (by kernel_rfl) (by kernel_rfl) (by kernel_rfl) (fun _ _ _ h => h) (by kernel_rfl) ?hy4 hHeld ?hr4
    case hy4 => (intro w hSw; (try dsimp only at hSw); go_simp; try (with_reducible rfl))
    case hr4 =>
    simp only [Act.put, List.setIfInBounds_toArray, List.set_cons_zero, List.set_cons_succ]
    refine held_yes 5 85 (v := ?_) rfl rfl (by kernel_rfl) (by kernel_rfl) (by kernel_rfl) (fun _ _ _ h => h) (by kernel_rfl) ?hy5 hHeld ?hr5
    case hy5 => (intro w hSw; (try dsimp only at hSw); go_simp; try (with_reducible rfl))
    case hr5 =>
    simp only [Act.put, List.setIfInBounds_toArray, List.set_cons_zero, List.set_cons_succ]
    refine held_yes 6 86 (v := ?_) rfl rfl (by kernel_rfl) (by kernel_rfl) (by kernel_rfl) (fun _ _ _ h => h) (by kernel_rfl) ?hy6 hHeld ?hr6
    case hy6 => (intro w hSw; (try dsimp only at hSw); go_simp; try (with_reducible rfl))
    case hr6 =>
    simp only [Act.put, List.setIfInBounds_toArray, List.set_cons_zero, List.set_cons_succ]
    refine held_yes 10 90 (v := ?_) rfl rfl (by kernel_rfl) (by kernel_rfl) (by kernel_rfl) (fun _ _ _ h => h) (by kernel_rfl) ?hy10 hHeld ?hr10
    case hy10 => (intro w hSw; (try dsimp only at hSw); go_simp; try (with_reducible rfl))
    case hr10 =>
    simp only [Act.put, List.setIfInBounds_toArray, List.set_cons_zero, List.set_cons_succ]
    refine wpAnyH_ready (rs := [7]) (by kernel_rfl) (by simp) (AllReadyH.cons rfl (fun K hK => ?_) AllReadyH.nil)
    clear hHeld
    go_simp
    ((first | (go_at_call 12; ((with_reducible refine (hmd _).mono ?_); rintro e wz ⟨rfl, hgz⟩; replace HG := grown_trans HG hgz)) | (go_at_call 21; ((with_reducible refine (hl16 _ _ _ _ _ _ (X9.later HG).tx).mono ?_); rintro e wz ⟨rfl, hgz⟩; replace HG := grown_trans HG hgz))))
    refine hK.out _ _ (hcell HG) (fun hHeld => ?_)
    clear hK K
    try simp only [Act.put, List.setIfInBounds_toArray, List.set_cons_zero, List.set_cons_succ]
    refine held_yes 8 88 (v := ?_) rfl rfl (by kernel_rfl) (by kernel_rfl) (by kernel_rfl) (fun _ _ _ h => h) (by kernel_rfl) ?hy8 hHeld ?hr8
    case hy8 => (intro w hSw; (try dsimp only at hSw); go_simp; try (with_reducible rfl))
    case hr8 =>
    simp only [Act.put, List.setIfInBounds_toArray, List.set_cons_zero, List.set_cons_succ]
    refine held_yes 9 89 (v := ?_) rfl rfl (by kernel_rfl) (by kernel_rfl) (by kernel_rfl) (fun _ _ _ h => h) (by kernel_rfl) ?hy9 hHeld ?hr9
    case hy9 => (intro w hSw; (try dsimp only at hSw); go_simp; try (with_reducible rfl))
    case hr9 =>
    simp only [Act.put, List.setIfInBounds_toArray, List.set_cons_zero, List.set_cons_succ]
    refine held_yes 11 91 (v := ?_) rfl rfl (by kernel_rfl) (by kernel_rfl) (by kernel_rfl) (fun _ _ _ h => h) (by kernel_rfl) ?hy11 hHeld ?hr11
    case hy11 => (intro w hSw; (try dsimp only at hSw); go_simp; try (with_reducible rfl))
    case hr11 =>
    simp only [Act.put, List.setIfInBounds_toArray, List.set_cons_zero, List.set_cons_succ]
    refine held_yes 12 92 (v := ?_) rfl rfl (by kernel_rfl) (by kernel_rfl) (by kernel_rfl) (fun _ _ _ h => h) (by kernel_rfl) ?hy12 hHeld ?hr12
    case hy12 => (intro w hSw; (try dsimp only at hSw); go_simp; try (with_reducible rfl))
    case hr12 =>
    simp only [Act.put, List.setIfInBounds_toArray, List.set_cons_zero, List.set_cons_succ]
    refine held_yes 13 93 (v := ?_) rfl rfl (by kernel_rfl) (by kernel_rfl) (by kernel_rfl) (fun _ _ _ h => h) (by kernel_rfl) ?hy13 hHeld ?hr13
    case hy13 => (intro w hSw; (try dsimp only at hSw); go_simp; try (with_reducible rfl))
    case hr13 =>
    simp only [Act.put, List.setIfInBounds_toArray, List.set_cons_zero, List.set_cons_succ]
    refine held_yes 14 94 (v := ?_) rfl rfl (by kernel_rfl) (by kernel_rfl) (by kernel_rfl) (fun _ _ _ h => h) (by kernel_rfl) ?hy14 hHeld ?hr14
    case hy14 => (intro w hSw; (try dsimp only at hSw); go_simp; try (with_reducible rfl))
    case hr14 =>
    simp only [Act.put, List.setIfInBounds_toArray, List.set_cons_zero, List.set_cons_succ]
    refine held_yes 15 95 (v := ?_) rfl rfl (by kernel_rfl) (by kernel_rfl) (by kernel_rfl) (fun _ _ _ h => h) (by kernel_rfl) ?hy15 hHeld ?hr15
    case hy15 => (intro w hSw; (try dsimp only at hSw); go_simp; try (with_reducible rfl))
    case hr15 =>
    simp only [Act.put, List.setIfInBounds_toArray, List.set_cons_zero, List.set_cons_succ]
    refine held_yes 16 96 (v := ?_) rfl rfl (by kernel_rfl) (by kernel_rfl) (by kernel_rfl) (fun _ _ _ h => h) (by kernel_rfl) ?hy16 hHeld ?hr16
    case hy16 => (intro w hSw; (try dsimp only at hSw); go_simp; try (with_reducible rfl))
    case hr16 =>
    simp only [Act.put, List.setIfInBounds_toArray, List.set_cons_zero, List.set_cons_succ]
    refine held_yes 17 97 (v := ?_) rfl rfl (by kernel_rfl) (by kernel_rfl) (by kernel_rfl) (fun _ _ _ h => h) (by kernel_rfl) ?hy17 hHeld ?hr17
    case hy17 => (intro w hSw; (try dsimp only at hSw); go_simp; try (with_reducible rfl))
    case hr17 =>
    simp only [Act.put, List.setIfInBounds_toArray, List.set_cons_zero, List.set_cons_succ]
    refine held_skip 18 98 rfl rfl (by kernel_rfl) (by kernel_rfl) (by kernel_rfl) (fun _ _ _ h => h) (by kernel_rfl) hHeld ?_
    simp only [Act.put, List.setIfInBounds_toArray, List.set_cons_zero, List.set_cons_succ]
    refine held_skip 19 99 rfl rfl (by kernel_rfl) (by kernel_rfl) (by kernel_rfl) (fun _ _ _ h => h) (by kernel_rfl) hHeld ?_
    simp only [Act.put, List.setIfInBounds_toArray, List.set_cons_zero, List.set_cons_succ]
    refine held_skip 20 100 rfl rfl (by kernel_rfl) (by kernel_rfl) (by kernel_rfl) (fun _ _ _ h => h) (by kernel_rfl) hHeld ?_
    simp only [Act.put, List.setIfInBounds_toArray, List.set_cons_zero, List.set_cons_succ]
    refine held_skip 21 101 rfl rfl (by kernel_rfl) (by kernel_rfl) (by kernel_rfl) (fun _ _ _ h => h) (by kernel_rfl) hHeld ?_
    simp only [Act.put, List.setIfInBounds_toArray, List.set_cons_zero, List.set_cons_succ]
    refine held_skip 22 102 rfl rfl (by kernel_rfl) (by kernel_rfl) (by kernel_rfl) (fun _ _ _ h => h) (by kernel_rfl) hHeld ?_
    simp only [Act.put, List.setIfInBounds_toArray, List.set_cons_zero, List.set_cons_succ]
    refine held_skip 23 103 rfl rfl (by kernel_rfl) (by kernel_rfl) (by kernel_rfl) (fun _ _ _ h => h) (by kernel_rfl) hHeld ?_
    simp only [Act.put, List.setIfInBounds_toArray, List.set_cons_zero, List.set_cons_succ]
    refine held_skip 24 104 rfl rfl (by kernel_rfl) (by kernel_rfl) (by kernel_rfl) (fun _ _ _ h => h) (by kernel_rfl) hHeld ?_
    simp only [Act.put, List.setIfInBounds_toArray, List.set_cons_zero, List.set_cons_succ]
    refine held_skip 25 105 rfl rfl (by kernel_rfl) (by kernel_rfl) (by kernel_rfl) (fun _ _ _ h => h) (by kernel_rfl) hHeld ?_
    simp only [Act.put, List.setIfInBounds_toArray, List.set_cons_zero, List.set_cons_succ]
    refine held_skip 26 106 rfl rfl (by kernel_rfl) (by kernel_rfl) (by kernel_rfl) (fun _ _ _ h => h) (by kernel_rfl) hHeld ?_
    simp only [Act.put, List.setIfInBounds_toArray, List.set_cons_zero, List.set_cons_succ]
    refine held_skip 27 107 rfl rfl (by kernel_rfl) (by kernel_rfl) (by kernel_rfl) (fun _ _ _ h => h) (by kernel_rfl) hHeld ?_
    simp only [Act.put, List.setIfInBounds_toArray, List.set_cons_zero, List.set_cons_succ]
    refine held_skip 28 108 rfl rfl (by kernel_rfl) (by kernel_rfl) (by kernel_rfl) (fun _ _ _ h => h) (by kernel_rfl) hHeld ?_
    simp only [Act.put, List.setIfInBounds_toArray, List.set_cons_zero, List.set_cons_succ]
    refine held_skip 29 109 rfl rfl (by kernel_rfl) (by kernel_rfl) (by kernel_rfl) (fun _ _ _ h => h) (by kernel_rfl) hHeld ?_
    simp only [Act.put, List.setIfInBounds_toArray, List.set_cons_zero, List.set_cons_succ]
    refine held_yes 30 110 (v := ?_) rfl rfl (by kernel_rfl) (by kernel_rfl) (by kernel_rfl) (fun _ _ _ h => h) (by kernel_rfl) ?hy30 hHeld ?hr30
    case hy30 => (intro w hSw; (try dsimp only at hSw); go_simp; try (with_reducible rfl))
    case hr30 =>
    simp only [Act.put, List.setIfInBounds_toArray, List.set_cons_zero, List.set_cons_succ]
    refine held_yes 31 111 (v := ?_) rfl rfl (by kernel_rfl) (by kernel_rfl) (by kernel_rfl) (fun _ _ _ h => h) (by kernel_rfl) ?hy31 hHeld ?hr31
    case hy31 => (intro w hSw; (try dsimp only at hSw); go_simp; try (with_reducible rfl))
    case hr31 =>
    simp only [Act.put, List.setIfInBounds_toArray, List.set_cons_zero, List.set_cons_succ]
    refine held_yes 32 112 (v := ?_) rfl rfl (by kernel_rfl) (by kernel_rfl) (by kernel_rfl) (fun _ _ _ h => h) (by kernel_rfl) ?hy32 hHeld ?hr32
    case hy32 => (intro w hSw; (try dsimp only at hSw); go_simp; try (with_reducible rfl))
    case hr32 =>
    simp only [Act.put, List.setIfInBounds_toArray, List.set_cons_zero, List.set_cons_succ]
    refine held_yes 33 6 (v := ?_) rfl rfl (by kernel_rfl) (by kernel_rfl) (by kernel_rfl) (fun _ _ _ h => h) (by kernel_rfl) ?hy33 hHeld ?hr33
    case hy33 => (intro w hSw; (try dsimp only at hSw); go_simp; try (with_reducible rfl))
    case hr33 =>
    simp only [Act.put, List.setIfInBounds_toArray, List.set_cons_zero, List.set_cons_succ]
    refine wpAnyH_done (by kernel_rfl) ?_ _
    go_wp2
    go_ret
    exact ⟨ret_bool' (by first | (simp; done) | (simp; omega)), grown_trans hg0 (grown_trans hg1 (X9.later HG).since)⟩
  · have hcell : ∀ {wr : World}, (w9.alloc (.cells #[.int .u64 s, .bool U2, .int .i64 O2] 26)).grownBy wr none →
        (wr.cell? ⟨w.heap.size, 0, none⟩ = some (.int .u64 s) ∧ wr.cell? ⟨w.heap.size, 1, none⟩ = some (.bool u) ∧ wr.cell? ⟨w.heap.size, 2, none⟩ = some (.int .i64 m)) ∧ (wr.cell? ⟨w.heap.size + 1, 0, none⟩ = some (.int .u64 off) ∧ wr.cell? ⟨w.heap.size + 1, 1, none⟩ = some (.int .u64 y)) ∧
        (wr.cell? ⟨w9.heap.size, 0, none⟩ = some (.int .u64 s) ∧ wr.cell? ⟨w9.heap.size, 1, none⟩ = some (.bool U2) ∧ wr.cell? ⟨w9.heap.size, 2, none⟩ = some (.int .i64 O2)) := fun {wr} hg => by
      obtain ⟨k0, k1, k2, k3, k4⟩ := two_boxes (grown_trans hg1 (grown_trans X9.since hg))
      exact ⟨⟨k0, k1, k2⟩, ⟨k3, k4⟩, tag_cells (tag_first hg)⟩
    have HG : (w9.alloc (.cells #[.int .u64 s, .bool U2, .int .i64 O2] 26)).grownBy (w9.alloc (.cells #[.int .u64 s, .bool U2, .int .i64 O2] 26)).drew none := grown_drew (grown_refl _ _)
    refine wp_region_held_drew (S := fun wr => (wr.cell? ⟨w.heap.size, 0, none⟩ = some (.int .u64 s) ∧ wr.cell? ⟨w.heap.size, 1, none⟩ = some (.bool u) ∧ wr.cell? ⟨w.heap.size, 2, none⟩ = some (.int .i64 m)) ∧ (wr.cell? ⟨w.heap.size + 1, 0, none⟩ = some (.int .u64 off) ∧ wr.cell? ⟨w.heap.size + 1, 1, none⟩ = some (.int .u64 y)) ∧
        (wr.cell? ⟨w9.heap.size, 0, none⟩ = some (.int .u64 s) ∧ wr.cell? ⟨w9.heap.size, 1, none⟩ = some (.bool U2) ∧ wr.cell? ⟨w9.heap.size, 2, none⟩ = some (.int .i64 O2))) (by kernel_rfl) (hcell HG) (fun hHeld => ?_)
    refine held_yes 0 80 (v := ?_) rfl rfl (by kernel_rfl) (by kernel_rfl) (by kernel_rfl) (fun _ _ _ h => h) (by kernel_rfl) ?hy0 hHeld ?hr0
    case hy0 => (intro w hSw; (try dsimp only at hSw); go_simp; try (with_reducible rfl))
    case hr0 =>
    simp only [Act.put, List.setIfInBounds_toArray, List.set_cons_zero, List.set_cons_succ]
    refine held_yes 1 81 (v := ?_) rfl rfl (by kernel_rfl) (by kernel_rfl) (by kernel_rfl) (fun _ _ _ h => h) (by kernel_rfl) ?hy1 hHeld ?hr1
    case hy1 => (intro w hSw; (try dsimp only at hSw); go_simp; try (with_reducible rfl))
    case hr1 =>
    simp only [Act.put, List.setIfInBounds_toArray, List.set_cons_zero, List.set_cons_succ]
    refine held_yes 2 82 (v := ?_) rfl rfl (by kernel_rfl) (by kernel_rfl) (by kernel_rfl) (fun _ _ _ h => h) (by kernel_rfl) ?hy2 hHeld ?hr2
    case hy2 => (intro w hSw; (try dsimp only at hSw); go_simp; try (with_reducible rfl))
    case hr2 =>
    simp only [Act.put, List.setIfInBounds_toArray, List.set_cons_zero, List.set_cons_succ]
    refine held_yes 3 83 (v := ?_) rfl rfl (by kernel_rfl) (by kernel_rfl) (by kernel_rfl) (fun _ _ _ h => h) (by kernel_rfl) ?hy3 hHeld ?hr3
    case hy3 => (intro w hSw; (try dsimp only at hSw); go_simp; try (with_reducible rfl))
    case hr3 =>
    simp only [Act.put, List.setIfInBounds_toArray, List.set_cons_zero, List.set_cons_succ]
    refine held_yes 4 84 (v := ?_) rfl rfl (by kernel_rfl) (by kernel_rfl) (by kernel_rfl) (fun _ _ _ h => h) (by kernel_rfl) ?hy4 hHeld ?hr4
    case hy4 => (intro w hSw; (try dsimp only at hSw); go_simp; try (with_reducible rfl))
    case hr4 =>
    simp only [Act.put, List.setIfInBounds_toArray, List.set_cons_zero, List.set_cons_succ]
    refine held_yes 5 85 (v := ?_) rfl rfl (by kernel_rfl) (by kernel_rfl) (by kernel_rfl) (fun _ _ _ h => h) (by kernel_rfl) ?hy5 hHeld ?hr5
    case hy5 => (intro w hSw; (try dsimp only at hSw); go_simp; try (with_reducible rfl))
    case hr5 =>
    simp only [Act.put, List.setIfInBounds_toArray, List.set_cons_zero, List.set_cons_succ]
    refine held_yes 6 86 (v := ?_) rfl rfl (by kernel_rfl) (by kernel_rfl) (by kernel_rfl) (fun _ _ _ h => h) (by kernel_rfl) ?hy6 hHeld ?hr6
    case hy6 => (intro w hSw; (try dsimp only at hSw); go_simp; try (with_reducible rfl))
    case hr6 =>
    simp only [Act.put, List.setIfInBounds_toArray, List.set_cons_zero, List.set_cons_succ]
    refine held_yes 10 90 (v := ?_) rfl rfl (by kernel_rfl) (by kernel_rfl) (by kernel_rfl) (fun _ _ _ h => h) (by kernel_rfl) ?hy10 hHeld ?hr10
    case hy10 => (intro w hSw; (try dsimp only at hSw); go_simp; try (with_reducible rfl))
    case hr10 =>
    simp only [Act.put, List.setIfInBounds_toArray, List.set_cons_zero, List.set_cons_succ]
    refine wpAnyH_ready (rs := [7]) (by kernel_rfl) (by simp) (AllReadyH.cons rfl (fun K hK => ?_) AllReadyH.nil)
    clear hHeld
    go_simp
    ((first | (go_at_call 12; ((with_reducible refine (hmd _).mono ?_); rintro e wz ⟨rfl, hgz⟩; replace HG := grown_trans HG hgz)) | (go_at_call 21; ((with_reducible refine (hl16 _ _ _ _ _ _ (X9.later HG).tx).mono ?_); rintro e wz ⟨rfl, hgz⟩; replace HG := grown_trans HG hgz))))
    refine hK.out _ _ (hcell HG) (fun hHeld => ?_)
    clear hK K
    try simp only [Act.put, List.setIfInBounds_toArray, List.set_cons_zero, List.set_cons_succ]
    refine held_yes 8 88 (v := ?_) rfl rfl (by kernel_rfl) (by kernel_rfl) (by kernel_rfl) (fun _ _ _ h => h) (by kernel_rfl) ?hy8 hHeld ?hr8
    case hy8 => (intro w hSw; (try dsimp only at hSw); go_simp; try (with_reducible rfl))
    case hr8 =>
    simp only [Act.put, List.setIfInBounds_toArray, List.set_cons_zero, List.set_cons_succ]
    refine held_yes 9 89 (v := ?_) rfl rfl (by kernel_rfl) (by kernel_rfl) (by kernel_rfl) (fun _ _ _ h => h) (by kernel_rfl) ?hy9 hHeld ?hr9
    case hy9 => (intro w hSw; (try dsimp only at hSw); go_simp; try (with_reducible rfl))
    case hr9 =>
    simp only [Act.put, List.setIfInBounds_toArray, List.set_cons_zero, List.set_cons_succ]
    refine held_yes 11 91 (v := ?_) rfl rfl (by kernel_rfl) (by kernel_rfl) (by kernel_rfl) (fun _ _ _ h => h) (by kernel_rfl) ?hy11 hHeld ?hr11
    case hy11 => (intro w hSw; (try dsimp only at hSw); go_simp; try (with_reducible rfl))
    case hr11 =>
    simp only [Act.put, List.setIfInBounds_toArray, List.set_cons_zero, List.set_cons_succ]
    refine held_yes 12 92 (v := ?_) rfl rfl (by kernel_rfl) (by kernel_rfl) (by kernel_rfl) (fun _ _ _ h => h) (by kernel_rfl) ?hy12 hHeld ?hr12
    case hy12 => (intro w hSw; (try dsimp only at hSw); go_simp; try (with_reducible rfl))
    case hr12 =>
    simp only [Act.put, List.setIfInBounds_toArray, List.set_cons_zero, List.set_cons_succ]
    refine held_yes 13 93 (v := ?_) rfl rfl (by kernel_rfl) (by kernel_rfl) (by kernel_rfl) (fun _ _ _ h => h) (by kernel_rfl) ?hy13 hHeld ?hr13
    case hy13 => (intro w hSw; (try dsimp only at hSw); go_simp; try (with_reducible rfl))
    case hr13 =>
    simp only [Act.put, List.setIfInBounds_toArray, List.set_cons_zero, List.set_cons_succ]
    refine held_yes 14 94 (v := ?_) rfl rfl (by kernel_rfl) (by kernel_rfl) (by kernel_rfl) (fun _ _ _ h => h) (by kernel_rfl) ?hy14 hHeld ?hr14
    case hy14 => (intro w hSw; (try dsimp only at hSw); go_simp; try (with_reducible rfl))
    case hr14 =>
    simp only [Act.put, List.setIfInBounds_toArray, List.set_cons_zero, List.set_cons_succ]
    refine held_yes 15 95 (v := ?_) rfl rfl (by kernel_rfl) (by kernel_rfl) (by kernel_rfl) (fun _ _ _ h => h) (by kernel_rfl) ?hy15 hHeld ?hr15
    case hy15 => (intro w hSw; (try dsimp only at hSw); go_simp; try (with_reducible rfl))
    case hr15 =>
    simp only [Act.put, List.setIfInBounds_toArray, List.set_cons_zero, List.set_cons_succ]
    refine held_yes 16 96 (v := ?_) rfl rfl (by kernel_rfl) (by kernel_rfl) (by kernel_rfl) (fun _ _ _ h => h) (by kernel_rfl) ?hy16 hHeld ?hr16
    case hy16 => (intro w hSw; (try dsimp only at hSw); go_simp; try (with_reducible rfl))
    case hr16 =>
    simp only [Act.put, List.setIfInBounds_toArray, List.set_cons_zero, List.set_cons_succ]
    refine held_yes 17 97 (v := ?_) rfl rfl (by kernel_rfl) (by kernel_rfl) (by kernel_rfl) (fun _ _ _ h => h) (by kernel_rfl) ?hy17 hHeld ?hr17
    case hy17 => (intro w hSw; (try dsimp only at hSw); go_simp; try (with_reducible rfl))
    case hr17 =>
    simp only [Act.put, List.setIfInBounds_toArray, List.set_cons_zero, List.set_cons_succ]
    refine held_skip 18 98 rfl rfl (by kernel_rfl) (by kernel_rfl) (by kernel_rfl) (fun _ _ _ h => h) (by kernel_rfl) hHeld ?_
    simp only [Act.put, List.setIfInBounds_toArray, List.set_cons_zero, List.set_cons_succ]
    refine held_skip 19 99 rfl rfl (by kernel_rfl) (by kernel_rfl) (by kernel_rfl) (fun _ _ _ h => h) (by kernel_rfl) hHeld ?_
    simp only [Act.put, List.setIfInBounds_toArray, List.set_cons_zero, List.set_cons_succ]
    refine held_skip 20 100 rfl rfl (by kernel_rfl) (by kernel_rfl) (by kernel_rfl) (fun _ _ _ h => h) (by kernel_rfl) hHeld ?_
    simp only [Act.put, List.setIfInBounds_toArray, List.set_cons_zero, List.set_cons_succ]
    refine held_skip 21 101 rfl rfl (by kernel_rfl) (by kernel_rfl) (by kernel_rfl) (fun _ _ _ h => h) (by kernel_rfl) hHeld ?_
    simp only [Act.put, List.setIfInBounds_toArray, List.set_cons_zero, List.set_cons_succ]
    refine held_skip 22 102 rfl rfl (by kernel_rfl) (by kernel_rfl) (by kernel_rfl) (fun _ _ _ h => h) (by kernel_rfl) hHeld ?_
    simp only [Act.put, List.setIfInBounds_toArray, List.set_cons_zero, List.set_cons_succ]
    refine held_skip 23 103 rfl rfl (by kernel_rfl) (by kernel_rfl) (by kernel_rfl) (fun _ _ _ h => h) (by kernel_rfl) hHeld ?_
    simp only [Act.put, List.setIfInBounds_toArray, List.set_cons_zero, List.set_cons_succ]
    refine held_skip 24 104 rfl rfl (by kernel_rfl) (by kernel_rfl) (by kernel_rfl) (fun _ _ _ h => h) (by kernel_rfl) hHeld ?_
    simp only [Act.put, List.setIfInBounds_toArray, List.set_cons_zero, List.set_cons_succ]
    refine held_skip 25 105 rfl rfl (by kernel_rfl) (by kernel_rfl) (by kernel_rfl) (fun _ _ _ h => h) (by kernel_rfl) hHeld ?_
    simp only [Act.put, List.setIfInBounds_toArray, List.set_cons_zero, List.set_cons_succ]
    refine held_skip 26 106 rfl rfl (by kernel_rfl) (by kernel_rfl) (by kernel_rfl) (fun _ _ _ h => h) (by kernel_rfl) hHeld ?_
    simp only [Act.put, List.setIfInBounds_toArray, List.set_cons_zero, List.set_cons_succ]
    refine held_skip 27 107 rfl rfl (by kernel_rfl) (by kernel_rfl) (by kernel_rfl) (fun _ _ _ h => h) (by kernel_rfl) hHeld ?_
    simp only [Act.put, List.setIfInBounds_toArray, List.set_cons_zero, List.set_cons_succ]
    refine held_skip 28 108 rfl rfl (by kernel_rfl) (by kernel_rfl) (by kernel_rfl) (fun _ _ _ h => h) (by kernel_rfl) hHeld ?_
    simp only [Act.put, List.setIfInBounds_toArray, List.set_cons_zero, List.set_cons_succ]
    refine held_skip 29 109 rfl rfl (by kernel_rfl) (by kernel_rfl) (by kernel_rfl) (fun _ _ _ h => h) (by kernel_rfl) hHeld ?_
    simp only [Act.put, List.setIfInBounds_toArray, List.set_cons_zero, List.set_cons_succ]
    refine held_yes 30 110 (v := ?_) rfl rfl (by kernel_rfl) (by kernel_rfl) (by kernel_rfl) (fun _ _ _ h => h) (by kernel_rfl) ?hy30 hHeld ?hr30
    case hy30 => (intro w hSw; (try dsimp only at hSw); go_simp; try (with_reducible rfl))
    case hr30 =>
    simp only [Act.put, List.setIfInBounds_toArray, List.set_cons_zero, List.set_cons_succ]
    refine held_yes 31 111 (v := ?_) rfl rfl (by kernel_rfl) (by kernel_rfl) (by kernel_rfl) (fun _ _ _ h => h) (by kernel_rfl) ?hy31 hHeld ?hr31
    case hy31 => (intro w hSw; (try dsimp only at hSw); go_simp; try (with_reducible rfl))
    case hr31 =>
    simp only [Act.put, List.setIfInBounds_toArray, List.set_cons_zero, List.set_cons_succ]
    refine held_yes 32 112 (v := ?_) rfl rfl (by kernel_rfl) (by kernel_rfl) (by kernel_rfl) (fun _ _ _ h => h) (by kernel_rfl) ?hy32 hHeld ?hr32
    case hy32 => (intro w hSw; (try dsimp only at hSw); go_simp; try (with_reducible rfl))
    case hr32 =>
    simp only [Act.put, List.setIfInBounds_toArray, List.set_cons_zero, List.set_cons_succ]
    refine held_yes 33 6 (v := ?_) rfl rfl (by kernel_rfl) (by kernel_rfl) (by kernel_rfl) (fun _ _ _ h => h) (by kernel_rfl) ?hy33 hHeld ?hr33
    case hy33 => (intro w hSw; (try dsimp only at hSw); go_simp; try (with_reducible rfl))
    case hr33 =>
    simp only [Act.put, List.setIfInBounds_toArray, List.set_cons_zero, List.set_cons_succ]
    refine wpAnyH_done (by kernel_rfl) ?_ _
    go_wp2
    go_ret
    exact ⟨ret_bool' (by first | (simp; done) | (simp; omega)), grown_trans hg0 (grown_trans hg1 (X9.later HG).since)⟩
  · have hcell : ∀ {wr : World}, (w9.alloc (.cells #[.int .u64 s, .bool u, .int .i64 O2] 26)).grownBy wr none →
        (wr.cell? ⟨w.heap.size, 0, none⟩ = some (.int .u64 s) ∧ wr.cell? ⟨w.heap.size, 1, none⟩ = some (.bool u) ∧ wr.cell? ⟨w.heap.size, 2, none⟩ = some (.int .i64 m)) ∧ (wr.cell? ⟨w.heap.size + 1, 0, none⟩ = some (.int .u64 off) ∧ wr.cell? ⟨w.heap.size + 1, 1, none⟩ = some (.int .u64 y)) ∧
        (wr.cell? ⟨w9.heap.size, 0, none⟩ = some (.int .u64 s) ∧ wr.cell? ⟨w9.heap.size, 1, none⟩ = some (.bool u) ∧ wr.cell? ⟨w9.heap.size, 2, none⟩ = some (.int .i64 O2)) := fun {wr} hg => by
      obtain ⟨k0, k1, k2, k3, k4⟩ := two_boxes (grown_trans hg1 (grown_trans X9.since hg))
      exact ⟨⟨k0, k1, k2⟩, ⟨k3, k4⟩, tag_cells (tag_first hg)⟩
    have HG : (w9.alloc (.cells #[.int .u64 s, .bool u, .int .i64 O2] 26)).grownBy (w9.alloc (.cells #[.int .u64 s, .bool u, .int .i64 O2] 26)).drew none := grown_drew (grown_refl _ _)
    refine wp_region_held_drew (S := fun wr => (wr.cell? ⟨w.heap.size, 0, none⟩ = some (.int .u64 s) ∧ wr.cell? ⟨w.heap.size, 1, none⟩ = some (.bool u) ∧ wr.cell? ⟨w.heap.size, 2, none⟩ = some (.int .i64 m)) ∧ (wr.cell? ⟨w.heap.size + 1, 0, none⟩ = some (.int .u64 off) ∧ wr.cell? ⟨w.heap.size + 1, 1, none⟩ = some (.int .u64 y)) ∧
        (wr.cell? ⟨w9.heap.size, 0, none⟩ = some (.int .u64 s) ∧ wr.cell? ⟨w9.heap.size, 1, none⟩ = some (.bool u) ∧ wr.cell? ⟨w9.heap.size, 2, none⟩ = some (.int .i64 O2))) (by kernel_rfl) (hcell HG) (fun hHeld => ?_)
    refine held_yes 0 80 (v := ?_) rfl rfl (by kernel_rfl) (by kernel_rfl) (by kernel_rfl) (fun _ _ _ h => h) (by kernel_rfl) ?hy0 hHeld ?hr0
    case hy0 => (intro w hSw; (try dsimp only at hSw); go_simp; try (with_reducible rfl))
    case hr0 =>
    simp only [Act.put, List.setIfInBounds_toArray, List.set_cons_zero, List.set_cons_succ]
    refine held_yes 1 81 (v := ?_) rfl rfl (by kernel_rfl) (by kernel_rfl) (by kernel_rfl) (fun _ _ _ h => h) (by kernel_rfl) ?hy1 hHeld ?hr1
    case hy1 => (intro w hSw; (try dsimp only at hSw); go_simp; try (with_reducible rfl))
    case hr1 =>
    simp only [Act.put, List.setIfInBounds_toArray, List.set_cons_zero, List.set_cons_succ]
    refine held_yes 2 82 (v := ?_) rfl rfl (by kernel_rfl) (by kernel_rfl) (by kernel_rfl) (fun _ _ _ h => h) (by kernel_rfl) ?hy2 hHeld ?hr2
    case hy2 => (intro w hSw; (try dsimp only at hSw); go_simp; try (with_reducible rfl))
    case hr2 =>
    simp only [Act.put, List.setIfInBounds_toArray, List.set_cons_zero, List.set_cons_succ]
    refine held_yes 3 83 (v := ?_) rfl rfl (by kernel_rfl) (by kernel_rfl) (by kernel_rfl) (fun _ _ _ h => h) (by kernel_rfl) ?hy3 hHeld ?hr3
    case hy3 => (intro w hSw; (try dsimp only at hSw); go_simp; try (with_reducible rfl))
    case hr3 =>
    simp only [Act.put, List.setIfInBounds_toArray, List.set_cons_zero, List.set_cons_succ]
    refine held_yes 4 84 (v := ?_) rfl rfl (by kernel_rfl) (by kernel_rfl) (by kernel_rfl) (fun _ _ _ h => h) (by kernel_rfl) ?hy4 hHeld ?hr4
    case hy4 => (intro w hSw; (try dsimp only at hSw); go_simp; try (with_reducible rfl))
    case hr4 =>
    simp only [Act.put, List.setIfInBounds_toArray, List.set_cons_zero, List.set_cons_succ]
    refine held_yes 5 85 (v := ?_) rfl rfl (by kernel_rfl) (by kernel_rfl) (by kernel_rfl) (fun _ _ _ h => h) (by kernel_rfl) ?hy5 hHeld ?hr5
    case hy5 => (intro w hSw; (try dsimp only at hSw); go_simp; try (with_reducible rfl))
    case hr5 =>
    simp only [Act.put, List.setIfInBounds_toArray, List.set_cons_zero, List.set_cons_succ]
    refine held_yes 6 86 (v := ?_) rfl rfl (by kernel_rfl) (by kernel_rfl) (by kernel_rfl) (fun _ _ _ h => h) (by kernel_rfl) ?hy6 hHeld ?hr6
    case hy6 => (intro w hSw; (try dsimp only at hSw); go_simp; try (with_reducible rfl))
    case hr6 =>
    simp only [Act.put, List.setIfInBounds_toArray, List.set_cons_zero, List.set_cons_succ]
    refine held_yes 10 90 (v := ?_) rfl rfl (by kernel_rfl) (by kernel_rfl) (by kernel_rfl) (fun _ _ _ h => h) (by kernel_rfl) ?hy10 hHeld ?hr10
    case hy10 => (intro w hSw; (try dsimp only at hSw); go_simp; try (with_reducible rfl))
    case hr10 =>
    simp only [Act.put, List.setIfInBounds_toArray, List.set_cons_zero, List.set_cons_succ]
    refine wpAnyH_ready (rs := [7]) (by kernel_rfl) (by simp) (AllReadyH.cons rfl (fun K hK => ?_) AllReadyH.nil)
    clear hHeld
    go_simp
    ((first | (go_at_call 12; ((with_reducible refine (hmd _).mono ?_); rintro e wz ⟨rfl, hgz⟩; replace HG := grown_trans HG hgz)) | (go_at_call 21; ((with_reducible refine (hl16 _ _ _ _ _ _ (X9.later HG).tx).mono ?_); rintro e wz ⟨rfl, hgz⟩; replace HG := grown_trans HG hgz))))
    refine hK.out _ _ (hcell HG) (fun hHeld => ?_)
    clear hK K
    try simp only [Act.put, List.setIfInBounds_toArray, List.set_cons_zero, List.set_cons_succ]
    refine held_yes 8 88 (v := ?_) rfl rfl (by kernel_rfl) (by kernel_rfl) (by kernel_rfl) (fun _ _ _ h => h) (by kernel_rfl) ?hy8 hHeld ?hr8
    case hy8 => (intro w hSw; (try dsimp only at hSw); go_simp; try (with_reducible rfl))
    case hr8 =>
    simp only [Act.put, List.setIfInBounds_toArray, List.set_cons_zero, List.set_cons_succ]
    refine held_yes 9 89 (v := ?_) rfl rfl (by kernel_rfl) (by kernel_rfl) (by kernel_rfl) (fun _ _ _ h => h) (by kernel_rfl) ?hy9 hHeld ?hr9
    case hy9 => (intro w hSw; (try dsimp only at hSw); go_simp; try (with_reducible rfl))
    case hr9 =>
    simp only [Act.put, List.setIfInBounds_toArray, List.set_cons_zero, List.set_cons_succ]
    refine held_yes 11 91 (v := ?_) rfl rfl (by kernel_rfl) (by kernel_rfl) (by kernel_rfl) (fun _ _ _ h => h) (by kernel_rfl) ?hy11 hHeld ?hr11
    case hy11 => (intro w hSw; (try dsimp only at hSw); go_simp; try (with_reducible rfl))
    case hr11 =>
    simp only [Act.put, List.setIfInBounds_toArray, List.set_cons_zero, List.set_cons_succ]
    refine held_yes 12 92 (v := ?_) rfl rfl (by kernel_rfl) (by kernel_rfl) (by kernel_rfl) (fun _ _ _ h => h) (by kernel_rfl) ?hy12 hHeld ?hr12
    case hy12 => (intro w hSw; (try dsimp only at hSw); go_simp; try (with_reducible rfl))
    case hr12 =>
    simp only [Act.put, List.setIfInBounds_toArray, List.set_cons_zero, List.set_cons_succ]
    refine held_yes 13 93 (v := ?_) rfl rfl (by kernel_rfl) (by kernel_rfl) (by kernel_rfl) (fun _ _ _ h => h) (by kernel_rfl) ?hy13 hHeld ?hr13
    case hy13 => (intro w hSw; (try dsimp only at hSw); go_simp; try (with_reducible rfl))
    case hr13 =>
    simp only [Act.put, List.setIfInBounds_toArray, List.set_cons_zero, List.set_cons_succ]
    refine held_yes 14 94 (v := ?_) rfl rfl (by kernel_rfl) (by kernel_rfl) (by kernel_rfl) (fun _ _ _ h => h) (by kernel_rfl) ?hy14 hHeld ?hr14
    case hy14 => (intro w hSw; (try dsimp only at hSw); go_simp; try (with_reducible rfl))
    case hr14 =>
    simp only [Act.put, List.setIfInBounds_toArray, List.set_cons_zero, List.set_cons_succ]
    refine held_yes 15 95 (v := ?_) rfl rfl (by kernel_rfl) (by kernel_rfl) (by kernel_rfl) (fun _ _ _ h => h) (by kernel_rfl) ?hy15 hHeld ?hr15
    case hy15 => (intro w hSw; (try dsimp only at hSw); go_simp; try (with_reducible rfl))
    case hr15 =>
    simp only [Act.put, List.setIfInBounds_toArray, List.set_cons_zero, List.set_cons_succ]
    refine held_yes 16 96 (v := ?_) rfl rfl (by kernel_rfl) (by kernel_rfl) (by kernel_rfl) (fun _ _ _ h => h) (by kernel_rfl) ?hy16 hHeld ?hr16
    case hy16 => (intro w hSw; (try dsimp only at hSw); go_simp; try (with_reducible rfl))
    case hr16 =>
    simp only [Act.put, List.setIfInBounds_toArray, List.set_cons_zero, List.set_cons_succ]
    refine held_yes 17 97 (v := ?_) rfl rfl (by kernel_rfl) (by kernel_rfl) (by kernel_rfl) (fun _ _ _ h => h) (by kernel_rfl) ?hy17 hHeld ?hr17
    case hy17 => (intro w hSw; (try dsimp only at hSw); go_simp; try (with_reducible rfl))
    case hr17 =>
    simp only [Act.put, List.setIfInBounds_toArray, List.set_cons_zero, List.set_cons_succ]
    refine held_skip 18 98 rfl rfl (by kernel_rfl) (by kernel_rfl) (by kernel_rfl) (fun _ _ _ h => h) (by kernel_rfl) hHeld ?_
    simp only [Act.put, List.setIfInBounds_toArray, List.set_cons_zero, List.set_cons_succ]
    refine held_skip 19 99 rfl rfl (by kernel_rfl) (by kernel_rfl) (by kernel_rfl) (fun _ _ _ h => h) (by kernel_rfl) hHeld ?_
    simp only [Act.put, List.setIfInBounds_toArray, List.set_cons_zero, List.set_cons_succ]
    refine held_skip 20 100 rfl rfl (by kernel_rfl) (by kernel_rfl) (by kernel_rfl) (fun _ _ _ h => h) (by kernel_rfl) hHeld ?_
    simp only [Act.put, List.setIfInBounds_toArray, List.set_cons_zero, List.set_cons_succ]
    refine held_skip 21 101 rfl rfl (by kernel_rfl) (by kernel_rfl) (by kernel_rfl) (fun _ _ _ h => h) (by kernel_rfl) hHeld ?_
    simp only [Act.put, List.setIfInBounds_toArray, List.set_cons_zero, List.set_cons_succ]
    refine held_skip 22 102 rfl rfl (by kernel_rfl) (by kernel_rfl) (by kernel_rfl) (fun _ _ _ h => h) (by kernel_rfl) hHeld ?_
    simp only [Act.put, List.setIfInBounds_toArray, List.set_cons_zero, List.set_cons_succ]
    refine held_skip 23 103 rfl rfl (by kernel_rfl) (by kernel_rfl) (by kernel_rfl) (fun _ _ _ h => h) (by kernel_rfl) hHeld ?_
    simp only [Act.put, List.setIfInBounds_toArray, List.set_cons_zero, List.set_cons_succ]
    refine held_skip 24 104 rfl rfl (by kernel_rfl) (by kernel_rfl) (by kernel_rfl) (fun _ _ _ h => h) (by kernel_rfl) hHeld ?_
    simp only [Act.put, List.setIfInBounds_toArray, List.set_cons_zero, List.set_cons_succ]
    refine held_skip 25 105 rfl rfl (by kernel_rfl) (by kernel_rfl) (by kernel_rfl) (fun _ _ _ h => h) (by kernel_rfl) hHeld ?_
    simp only [Act.put, List.setIfInBounds_toArray, List.set_cons_zero, List.set_cons_succ]
    refine held_skip 26 106 rfl rfl (by kernel_rfl) (by kernel_rfl) (by kernel_rfl) (fun _ _ _ h => h) (by kernel_rfl) hHeld ?_
    simp only [Act.put, List.setIfInBounds_toArray, List.set_cons_zero, List.set_cons_succ]
    refine held_skip 27 107 rfl rfl (by kernel_rfl) (by kernel_rfl) (by kernel_rfl) (fun _ _ _ h => h) (by kernel_rfl) hHeld ?_
    simp only [Act.put, List.setIfInBounds_toArray, List.set_cons_zero, List.set_cons_succ]
    refine held_skip 28 108 rfl rfl (by kernel_rfl) (by kernel_rfl) (by kernel_rfl) (fun _ _ _ h => h) (by kernel_rfl) hHeld ?_
    simp only [Act.put, List.setIfInBounds_toArray, List.set_cons_zero, List.set_cons_succ]
    refine held_skip 29 109 rfl rfl (by kernel_rfl) (by kernel_rfl) (by kernel_rfl) (fun _ _ _ h => h) (by kernel_rfl) hHeld ?_
    simp only [Act.put, List.setIfInBounds_toArray, List.set_cons_zero, List.set_cons_succ]
    refine held_yes 30 110 (v := ?_) rfl rfl (by kernel_rfl) (by kernel_rfl) (by kernel_rfl) (fun _ _ _ h => h) (by kernel_rfl) ?hy30 hHeld ?hr30
    case hy30 => (intro w hSw; (try dsimp only at hSw); go_simp; try (with_reducible rfl))
    case hr30 =>
    simp only [Act.put, List.setIfInBounds_toArray, List.set_cons_zero, List.set_cons_succ]
    refine held_yes 31 111 (v := ?_) rfl rfl (by kernel_rfl) (by kernel_rfl) (by kernel_rfl) (fun _ _ _ h => h) (by kernel_rfl) ?hy31 hHeld ?hr31
    case hy31 => (intro w hSw; (try dsimp only at hSw); go_simp; try (with_reducible rfl))
    case hr31 =>
    simp only [Act.put, List.setIfInBounds_toArray, List.set_cons_zero, List.set_cons_succ]
    refine held_yes 32 112 (v := ?_) rfl rfl (by kernel_rfl) (by kernel_rfl) (by kernel_rfl) (fun _ _ _ h => h) (by kernel_rfl) ?hy32 hHeld ?hr32
    case hy32 => (intro w hSw; (try dsimp only at hSw); go_simp; try (with_reducible rfl))
    case hr32 =>
    simp only [Act.put, List.setIfInBounds_toArray, List.set_cons_zero, List.set_cons_succ]
    refine held_yes 33 6 (v := ?_) rfl rfl (by kernel_rfl) (by kernel_rfl) (by kernel_rfl) (fun _ _ _ h => h) (by kernel_rfl) ?hy33 hHeld ?hr33
    case hy33 => (intro w hSw; (try dsimp only at hSw); go_simp; try (with_reducible rfl))
    case hr33 =>
    simp only [Act.put, List.setIfInBounds_toArray, List.set_cons_zero, List.set_cons_succ]
    refine wpAnyH_done (by kernel_rfl) ?_ _
    go_wp2
    go_ret
    exact ⟨ret_bool' (by first | (simp; done) | (simp; omega)), grown_trans hg0 (grown_trans hg1 (X9.later HG).since)⟩
set_option maxRecDepth 100000 in
set_option maxHeartbeats 8000000 in
theorem core_ne (off : Nat) (ho : off < 18446744073709551616) (s : Nat) (u : Bool) (m : Nat) (x : Nat) (hx : x < 18446744073709551616) (y : Nat) (hy : y < 18446744073709551616) (hne : x ≠ off) (hm : mayP s u m) (hi : inP 4480 off s) (w : World) :
    Calls Try.prog 6 #[.int .u64 off, .agg #[.int .u64 s, .bool u, .int .i64 m], .agg #[.int .u64 x, .int .u64 y]] w fun e w' => e = .returned (.bool true) ∧ w.grownBy w' none := by
  have hfo : ∀ w, Calls Try.prog 16 #[.int .u64 4480, .slice none 0 0] w _ := fun w => formed_nil 4480 (by decide) w
  have h16 : txSee (fmt48 4480) [] 16 = 4480 := by
    have h : fitsP 4480 4800 := by unfold fitsP; omega
    rw [fmt48_yes h, see_nil]; exact fmt48_16 h
  have L := laid_of hm hi
  obtain ⟨b, eb⟩ : ∃ b, off + s - 8 = b := ⟨_, rfl⟩
  obtain ⟨p, ep⟩ : ∃ p, packN s u m = p := ⟨_, rfl⟩
  have hp64 : p < 18446744073709551616 := by rw [← ep]; exact (unpack_pack hm).1
  obtain ⟨ws, ews⟩ : ∃ ws, fmt48 4480 = ws := ⟨_, rfl⟩
  rw [ews] at hfo h16 L
  have hwr := fun (w : World) (T M : Nat) (R : Option Nat) (B D : Nat) (h : Thinks w T M R B D ws []) => twrite_yes h off s u m ho hm (by rw [h16]; exact hi)
  rw [ep, eb] at hwr L
  obtain ⟨l, el⟩ : ∃ l, txStore ws (txStore ws [] off p) b p = l := ⟨_, rfl⟩
  rw [el] at hwr L
  have hr1 := fun (w : World) (T M : Nat) (R : Option Nat) (B D : Nat) (h : Thinks w T M R B D ws l) => tread_any h off ho
  obtain ⟨r1, r2, r3, r4⟩ := L.read hm ep
  rw [r1, r2, r3, r4] at hr1
  have hmd := fun w => made_any s u m w
  have hlo := fun (w : World) (T M : Nat) (R : Option Nat) (B D : Nat) (h : Thinks w T M R B D ws l) => txload_any h x hx
  obtain ⟨z, ez⟩ : ∃ z, txSee ws l x = z := ⟨_, rfl⟩
  rw [ez] at hlo
  have hst := fun (w : World) (T M : Nat) (R : Option Nat) (B D : Nat) (h : Thinks w T M R B D ws l) => txstore_any h x y hx hy
  have hr2 := fun (w : World) (T M : Nat) (R : Option Nat) (B D : Nat) (h : Thinks w T M R B D ws (txStore ws l x y)) => tread_any h off ho
  have hl16 : ∀ (w : World) (T M : Nat) (R : Option Nat) (B D : Nat) (h : Thinks w T M R B D ws (txStore ws l x y)), Calls Try.prog 21 #[.pointer (some ⟨T, 0, none⟩), .int .u64 16] w _ := fun w T M R B D h => txload_any h 16 (by decide)
  obtain ⟨v, ev⟩ : ∃ v, txSee ws (txStore ws l x y) 16 = v := ⟨_, rfl⟩
  rw [ev] at hl16
  have hl1 := L.l1
  have hlb := L.hb
  obtain ⟨t, et⟩ : ∃ t, off + s = t := ⟨_, rfl⟩
  have g1 : IntKind.u64.wrap ((off : Int) + (s : Int)) = (t : Nat) := by rw [IntKind.wrap_u64]; omega
  have g2 : IntKind.u64.wrap ((off : Int) + (s : Int) - 8) = (b : Nat) := by rw [IntKind.wrap_u64]; omega
  have g3 : IntKind.u64.wrap ((t : Int) - 8) = (b : Nat) := by rw [IntKind.wrap_u64]; omega
  have hxo : ((x : Int) == (off : Int)) = false := by rw [beq_eq_false_iff_ne]; omega
  obtain ⟨mb, hmb⟩ : ∃ k, ((x : Int) == (b : Int)) = k := ⟨_, rfl⟩
  obtain ⟨mx, hmx⟩ : ∃ k, ((x : Int) == 16) = k := ⟨_, rfl⟩
  obtain ⟨l3, el3⟩ : ∃ l3, txStore ws l x y = l3 := ⟨_, rfl⟩
  have hcase : (true = mb ∧ false = mx ∧ z = p ∧ ((y = p ∧ s = rdS (txSee ws l3) off ∧ u = rdU (txSee ws l3) off ∧ m = rdO (txSee ws l3) off ∧ 0 = rdE (txSee ws l3) off) ∨ (((y : Int) != (p : Int)) = true ∧ 12 = rdE (txSee ws l3) off))) ∨
      (false = mb ∧ true = mx ∧ (((v : Int) < (t : Int) ∧ 12 = rdE (txSee ws l3) off) ∨ (¬ (v : Int) < (t : Int) ∧ s = rdS (txSee ws l3) off ∧ u = rdU (txSee ws l3) off ∧ m = rdO (txSee ws l3) off ∧ 0 = rdE (txSee ws l3) off))) ∨
      (false = mb ∧ false = mx ∧ s = rdS (txSee ws l3) off ∧ u = rdU (txSee ws l3) off ∧ m = rdO (txSee ws l3) off ∧ 0 = rdE (txSee ws l3) off) := by
    rw [← el3]
    by_cases e1 : x = b
    · refine .inl ⟨by rw [← hmb, eq_comm, beq_iff_eq]; omega, by rw [← hmx, eq_comm, beq_eq_false_iff_ne]; omega, by rw [← ez, e1]; exact L.e, ?_⟩
      rw [e1]
      by_cases e : y = p
      · subst e
        obtain ⟨e1, e2, e3, e4⟩ := L.b_same hm ep
        exact .inl ⟨rfl, e1.symm, e2.symm, e3.symm, e4.symm⟩
      · exact .inr ⟨by rw [bne_iff_ne]; omega, (L.b_else hm ep e).symm⟩
    · by_cases e2 : x = 16
      · refine .inr (.inl ⟨by rw [← hmb, eq_comm, beq_eq_false_iff_ne]; omega, by rw [← hmx, eq_comm, beq_iff_eq]; omega, ?_⟩)
        have hv : v = y := by rw [← ev, e2, see_stored L.stands.2.2, if_pos rfl]
        rw [e2]
        by_cases e : y < off + s
        · exact .inl ⟨by omega, (L.size_else hm ep e).symm⟩
        · obtain ⟨e1, e2, e3, e4⟩ := L.size_same hm ep (Nat.le_of_not_lt e)
          exact .inr ⟨by omega, e1.symm, e2.symm, e3.symm, e4.symm⟩
      · obtain ⟨k1, k2, k3, k4⟩ := L.other hm ep (y := y) hne e1 e2
        exact .inr (.inr ⟨by rw [← hmb, eq_comm, beq_eq_false_iff_ne]; omega, by rw [← hmx, eq_comm, beq_eq_false_iff_ne]; omega, k1.symm, k2.symm, k3.symm, k4.symm⟩)
  rw [el3] at hst hr2 hl16
  clear el3 ev ez hl1 hlb et hne
  obtain ⟨S2, a1⟩ : ∃ k, rdS (txSee ws l3) off = k := ⟨_, rfl⟩
  obtain ⟨U2, a2⟩ : ∃ k, rdU (txSee ws l3) off = k := ⟨_, rfl⟩
  obtain ⟨O2, a3⟩ : ∃ k, rdO (txSee ws l3) off = k := ⟨_, rfl⟩
  obtain ⟨E2, a4⟩ : ∃ k, rdE (txSee ws l3) off = k := ⟨_, rfl⟩
  rw [a1, a2, a3, a4] at hr2 hcase
  have HC := Lib.hid hcase
  have hg0 : w.grownBy ((w.alloc (.cells #[.int .u64 s, .bool u, .int .i64 m] 24)).alloc (.cells #[.int .u64 x, .int .u64 y] 52)) none := grown_trans (World.grownBy_alloc _ _ _) (World.grownBy_alloc _ _ _)
  clear ews h16 hi L eb ep el r1 r2 r3 r4 a1 a2 a3 a4 hcase hm
  go_enter Try.func6, Try.ntmps6
  go_wp2_with (first | (go_at_call 8; ((with_reducible refine (awake5 _).mono ?_); rintro e w1 ⟨rfl, hg1⟩)) | (go_at_call 16; ((with_reducible refine (hfo _).mono ?_); rintro e w2 ⟨B, D, T, M, R, wv, pv, rfl, X1, hrt, _⟩; obtain ⟨wa, wn, wc, hwv⟩ := wv_form hrt.words; subst hwv; obtain ⟨pa, pn, pc, hpv⟩ := pv_form hrt.puts; subst hpv; have X2 := X1.later (World.grownBy_alloc w2 (.cells #[.slice wa wn wc, .slice pa pn pc] 42) none); obtain ⟨q0, q1, q2, q3, q4⟩ := two_boxes (grown_trans hg1 X2.since))) | (go_at_call 12; ((with_reducible refine (hmd _).mono ?_); rintro e w3 ⟨rfl, hg3⟩; have X3 := X2.later hg3)) | (go_at_call 19; ((with_reducible refine (hwr _ _ _ _ _ _ X3.tx).mono ?_); rintro e w4 ⟨rfl, ht4⟩; obtain ⟨R4, X4, _⟩ := X3.step ht4)) | (go_at_call 17; ((with_reducible refine (hr1 _ _ _ _ _ _ X4.tx).mono ?_); rintro e w5 ⟨rfl, hg5⟩; have hga := World.grownBy_alloc w5 (.cells #[.int .u64 s, .bool u, .int .i64 m] 26) none; have X5 := X4.later (grown_trans hg5 hga))))
  have hcell : ∀ {wr : World}, (w5.alloc (.cells #[.int .u64 s, .bool u, .int .i64 m] 26)).grownBy wr none →
      (wr.cell? ⟨w.heap.size, 0, none⟩ = some (.int .u64 s) ∧ wr.cell? ⟨w.heap.size, 1, none⟩ = some (.bool u) ∧ wr.cell? ⟨w.heap.size, 2, none⟩ = some (.int .i64 m)) ∧
      (wr.cell? ⟨w5.heap.size, 0, none⟩ = some (.int .u64 s) ∧ wr.cell? ⟨w5.heap.size, 1, none⟩ = some (.bool u) ∧ wr.cell? ⟨w5.heap.size, 2, none⟩ = some (.int .i64 m)) := fun {wr} hg => by
    obtain ⟨k0, k1, k2, _, _⟩ := two_boxes (grown_trans hg1 (grown_trans X5.since hg))
    exact ⟨⟨k0, k1, k2⟩, tag_cells (tag_first hg)⟩
  have HG : (w5.alloc (.cells #[.int .u64 s, .bool u, .int .i64 m] 26)).grownBy (w5.alloc (.cells #[.int .u64 s, .bool u, .int .i64 m] 26)).drew none := grown_drew (grown_refl _ _)
  clear q0 q1 q2 q3 q4
  obtain ⟨⟨y0, y1, y2⟩, z0, z1, z2⟩ := hcell HG
  go_region_held3 (fun wr => (wr.cell? ⟨w.heap.size, 0, none⟩ = some (.int .u64 s) ∧ wr.cell? ⟨w.heap.size, 1, none⟩ = some (.bool u) ∧ wr.cell? ⟨w.heap.size, 2, none⟩ = some (.int .i64 m)) ∧
      (wr.cell? ⟨w5.heap.size, 0, none⟩ = some (.int .u64 s) ∧ wr.cell? ⟨w5.heap.size, 1, none⟩ = some (.bool u) ∧ wr.cell? ⟨w5.heap.size, 2, none⟩ = some (.int .i64 m))) (exact hcell HG)
    (first | (go_at_call 12; ((with_reducible refine (hmd _).mono ?_); rintro e w9 ⟨rfl, hg9⟩; replace HG := grown_trans HG hg9)))
  have X6 := X5.later HG
  obtain ⟨q0, q1, q2, q3, q4⟩ := two_boxes (grown_trans hg1 X6.since)
  clear y0 y1 y2 z0 z1 z2 hcell
  go_wp2_with (first | (go_at_call 21; ((with_reducible refine (hlo _ _ _ _ _ _ X6.tx).mono ?_); rintro e w7 ⟨rfl, hg7⟩; have X7 := X6.later hg7; obtain ⟨q0, q1, q2, q3, q4⟩ := two_boxes (grown_trans hg1 X7.since))) | (go_at_call 22; ((with_reducible refine (hst _ _ _ _ _ _ X7.tx).mono ?_); rintro e w8 ⟨rfl, ht8⟩; obtain ⟨R8, X8, _⟩ := X7.step ht8)) | (go_at_call 17; ((with_reducible refine (hr2 _ _ _ _ _ _ X8.tx).mono ?_); rintro e w9 ⟨rfl, hg9⟩; have hgb := World.grownBy_alloc w9 (.cells #[.int .u64 S2, .bool U2, .int .i64 O2] 26) none; have X9 := X8.later (grown_trans hg9 hgb); obtain ⟨q0, q1, q2, q3, q4⟩ := two_boxes (grown_trans hg1 X9.since))))
  clear q0 q1 q2 q3 q4
  rcases HC.out with ⟨rfl, rfl, rfl, ⟨rfl, rfl, rfl, rfl, rfl⟩ | ⟨hne, rfl⟩⟩ | ⟨rfl, rfl, ⟨hvt, rfl⟩ | ⟨hvt, rfl, rfl, rfl, rfl⟩⟩ | ⟨rfl, rfl, rfl, rfl, rfl, rfl⟩
  · have hcell : ∀ {wr : World}, (w9.alloc (.cells #[.int .u64 s, .bool u, .int .i64 m] 26)).grownBy wr none →
        (wr.cell? ⟨w.heap.size, 0, none⟩ = some (.int .u64 s) ∧ wr.cell? ⟨w.heap.size, 1, none⟩ = some (.bool u) ∧ wr.cell? ⟨w.heap.size, 2, none⟩ = some (.int .i64 m)) ∧ (wr.cell? ⟨w.heap.size + 1, 0, none⟩ = some (.int .u64 x) ∧ wr.cell? ⟨w.heap.size + 1, 1, none⟩ = some (.int .u64 y)) ∧
        (wr.cell? ⟨w9.heap.size, 0, none⟩ = some (.int .u64 s) ∧ wr.cell? ⟨w9.heap.size, 1, none⟩ = some (.bool u) ∧ wr.cell? ⟨w9.heap.size, 2, none⟩ = some (.int .i64 m)) := fun {wr} hg => by
      obtain ⟨k0, k1, k2, k3, k4⟩ := two_boxes (grown_trans hg1 (grown_trans X9.since hg))
      exact ⟨⟨k0, k1, k2⟩, ⟨k3, k4⟩, tag_cells (tag_first hg)⟩
    have HG : (w9.alloc (.cells #[.int .u64 s, .bool u, .int .i64 m] 26)).grownBy (w9.alloc (.cells #[.int .u64 s, .bool u, .int .i64 m] 26)).drew none := grown_drew (grown_refl _ _)
    refine wp_region_held_drew (S := fun wr => (wr.cell? ⟨w.heap.size, 0, none⟩ = some (.int .u64 s) ∧ wr.cell? ⟨w.heap.size, 1, none⟩ = some (.bool u) ∧ wr.cell? ⟨w.heap.size, 2, none⟩ = some (.int .i64 m)) ∧ (wr.cell? ⟨w.heap.size + 1, 0, none⟩ = some (.int .u64 x) ∧ wr.cell? ⟨w.heap.size + 1, 1, none⟩ = some (.int .u64 y)) ∧
        (wr.cell? ⟨w9.heap.size, 0, none⟩ = some (.int .u64 s) ∧ wr.cell? ⟨w9.heap.size, 1, none⟩ = some (.bool u) ∧ wr.cell? ⟨w9.heap.size, 2, none⟩ = some (.int .i64 m))) (by kernel_rfl) (hcell HG) (fun hHeld => ?_)
    refine held_yes 0 80 (v := ?_) rfl rfl (by kernel_rfl) (by kernel_rfl) (by kernel_rfl) (fun _ _ _ h => h) (by kernel_rfl) ?hy0 hHeld ?hr0
    case hy0 => (intro w hSw; (try dsimp only at hSw); go_simp; try (with_reducible rfl))
    case hr0 =>
    simp only [Act.put, List.setIfInBounds_toArray, List.set_cons_zero, List.set_cons_succ]
    refine held_yes 1 81 (v := ?_) rfl rfl (by kernel_rfl) (by kernel_rfl) (by kernel_rfl) (fun _ _ _ h => h) (by kernel_rfl) ?hy1 hHeld ?hr1
    case hy1 => (intro w hSw; (try dsimp only at hSw); go_simp; try (with_reducible rfl))
    case hr1 =>
    simp only [Act.put, List.setIfInBounds_toArray, List.set_cons_zero, List.set_cons_succ]
    refine held_yes 2 82 (v := ?_) rfl rfl (by kernel_rfl) (by kernel_rfl) (by kernel_rfl) (fun _ _ _ h => h) (by kernel_rfl) ?hy2 hHeld ?hr2
    case hy2 => (intro w hSw; (try dsimp only at hSw); go_simp; try (with_reducible rfl))
    case hr2 =>
    simp only [Act.put, List.setIfInBounds_toArray, List.set_cons_zero, List.set_cons_succ]
    refine held_yes 3 83 (v := ?_) rfl rfl (by kernel_rfl) (by kernel_rfl) (by kernel_rfl) (fun _ _ _ h => h) (by kernel_rfl) ?hy3 hHeld ?hr3
    case hy3 => (intro w hSw; (try dsimp only at hSw); go_simp; try (with_reducible rfl))
    case hr3 =>
    simp only [Act.put, List.setIfInBounds_toArray, List.set_cons_zero, List.set_cons_succ]
    refine held_yes 4 84 (v := ?_) rfl rfl (by kernel_rfl) (by kernel_rfl) (by kernel_rfl) (fun _ _ _ h => h) (by kernel_rfl) ?hy4 hHeld ?hr4
    case hy4 => (intro w hSw; (try dsimp only at hSw); go_simp; try (with_reducible rfl))
    case hr4 =>
    simp only [Act.put, List.setIfInBounds_toArray, List.set_cons_zero, List.set_cons_succ]
    refine held_yes 5 85 (v := ?_) rfl rfl (by kernel_rfl) (by kernel_rfl) (by kernel_rfl) (fun _ _ _ h => h) (by kernel_rfl) ?hy5 hHeld ?hr5
    case hy5 => (intro w hSw; (try dsimp only at hSw); go_simp; try (with_reducible rfl))
    case hr5 =>
    simp only [Act.put, List.setIfInBounds_toArray, List.set_cons_zero, List.set_cons_succ]
    refine held_yes 6 86 (v := ?_) rfl rfl (by kernel_rfl) (by kernel_rfl) (by kernel_rfl) (fun _ _ _ h => h) (by kernel_rfl) ?hy6 hHeld ?hr6
    case hy6 => (intro w hSw; (try dsimp only at hSw); go_simp; try (with_reducible rfl))
    case hr6 =>
    simp only [Act.put, List.setIfInBounds_toArray, List.set_cons_zero, List.set_cons_succ]
    refine held_yes 10 90 (v := ?_) rfl rfl (by kernel_rfl) (by kernel_rfl) (by kernel_rfl) (fun _ _ _ h => h) (by kernel_rfl) ?hy10 hHeld ?hr10
    case hy10 => (intro w hSw; (try dsimp only at hSw); go_simp; try (with_reducible rfl))
    case hr10 =>
    simp only [Act.put, List.setIfInBounds_toArray, List.set_cons_zero, List.set_cons_succ]
    refine wpAnyH_ready (rs := [7]) (by kernel_rfl) (by simp) (AllReadyH.cons rfl (fun K hK => ?_) AllReadyH.nil)
    clear hHeld
    go_simp
    ((first | (go_at_call 12; ((with_reducible refine (hmd _).mono ?_); rintro e wz ⟨rfl, hgz⟩; replace HG := grown_trans HG hgz)) | (go_at_call 21; ((with_reducible refine (hl16 _ _ _ _ _ _ (X9.later HG).tx).mono ?_); rintro e wz ⟨rfl, hgz⟩; replace HG := grown_trans HG hgz))))
    refine hK.out _ _ (hcell HG) (fun hHeld => ?_)
    clear hK K
    try simp only [Act.put, List.setIfInBounds_toArray, List.set_cons_zero, List.set_cons_succ]
    refine held_yes 8 88 (v := ?_) rfl rfl (by kernel_rfl) (by kernel_rfl) (by kernel_rfl) (fun _ _ _ h => h) (by kernel_rfl) ?hy8 hHeld ?hr8
    case hy8 => (intro w hSw; (try dsimp only at hSw); go_simp; try (with_reducible rfl))
    case hr8 =>
    simp only [Act.put, List.setIfInBounds_toArray, List.set_cons_zero, List.set_cons_succ]
    refine held_yes 9 89 (v := ?_) rfl rfl (by kernel_rfl) (by kernel_rfl) (by kernel_rfl) (fun _ _ _ h => h) (by kernel_rfl) ?hy9 hHeld ?hr9
    case hy9 => (intro w hSw; (try dsimp only at hSw); go_simp; try (with_reducible rfl))
    case hr9 =>
    simp only [Act.put, List.setIfInBounds_toArray, List.set_cons_zero, List.set_cons_succ]
    refine held_yes 11 91 (v := ?_) rfl rfl (by kernel_rfl) (by kernel_rfl) (by kernel_rfl) (fun _ _ _ h => h) (by kernel_rfl) ?hy11 hHeld ?hr11
    case hy11 => (intro w hSw; (try dsimp only at hSw); go_simp; try (with_reducible rfl))
    case hr11 =>
    simp only [Act.put, List.setIfInBounds_toArray, List.set_cons_zero, List.set_cons_succ]
    refine held_yes 12 92 (v := ?_) rfl rfl (by kernel_rfl) (by kernel_rfl) (by kernel_rfl) (fun _ _ _ h => h) (by kernel_rfl) ?hy12 hHeld ?hr12
    case hy12 => (intro w hSw; (try dsimp only at hSw); go_simp; try (with_reducible rfl))
    case hr12 =>
    simp only [Act.put, List.setIfInBounds_toArray, List.set_cons_zero, List.set_cons_succ]
    refine held_yes 13 93 (v := ?_) rfl rfl (by kernel_rfl) (by kernel_rfl) (by kernel_rfl) (fun _ _ _ h => h) (by kernel_rfl) ?hy13 hHeld ?hr13
    case hy13 => (intro w hSw; (try dsimp only at hSw); go_simp; try (with_reducible rfl))
    case hr13 =>
    simp only [Act.put, List.setIfInBounds_toArray, List.set_cons_zero, List.set_cons_succ]
    refine held_yes 14 94 (v := ?_) rfl rfl (by kernel_rfl) (by kernel_rfl) (by kernel_rfl) (fun _ _ _ h => h) (by kernel_rfl) ?hy14 hHeld ?hr14
    case hy14 => (intro w hSw; (try dsimp only at hSw); go_simp; try (with_reducible rfl))
    case hr14 =>
    simp only [Act.put, List.setIfInBounds_toArray, List.set_cons_zero, List.set_cons_succ]
    refine held_yes 15 95 (v := ?_) rfl rfl (by kernel_rfl) (by kernel_rfl) (by kernel_rfl) (fun _ _ _ h => h) (by kernel_rfl) ?hy15 hHeld ?hr15
    case hy15 => (intro w hSw; (try dsimp only at hSw); go_simp; try (with_reducible rfl))
    case hr15 =>
    simp only [Act.put, List.setIfInBounds_toArray, List.set_cons_zero, List.set_cons_succ]
    refine held_yes 16 96 (v := ?_) rfl rfl (by kernel_rfl) (by kernel_rfl) (by kernel_rfl) (fun _ _ _ h => h) (by kernel_rfl) ?hy16 hHeld ?hr16
    case hy16 => (intro w hSw; (try dsimp only at hSw); go_simp; try (with_reducible rfl))
    case hr16 =>
    simp only [Act.put, List.setIfInBounds_toArray, List.set_cons_zero, List.set_cons_succ]
    refine held_yes 17 97 (v := ?_) rfl rfl (by kernel_rfl) (by kernel_rfl) (by kernel_rfl) (fun _ _ _ h => h) (by kernel_rfl) ?hy17 hHeld ?hr17
    case hy17 => (intro w hSw; (try dsimp only at hSw); go_simp; try (with_reducible rfl))
    case hr17 =>
    simp only [Act.put, List.setIfInBounds_toArray, List.set_cons_zero, List.set_cons_succ]
    refine held_yes 18 98 (v := ?_) rfl rfl (by kernel_rfl) (by kernel_rfl) (by kernel_rfl) (fun _ _ _ h => h) (by kernel_rfl) ?hy18 hHeld ?hr18
    case hy18 => (intro w hSw; (try dsimp only at hSw); go_simp; try (with_reducible rfl))
    case hr18 =>
    simp only [Act.put, List.setIfInBounds_toArray, List.set_cons_zero, List.set_cons_succ]
    refine held_yes 19 99 (v := ?_) rfl rfl (by kernel_rfl) (by kernel_rfl) (by kernel_rfl) (fun _ _ _ h => h) (by kernel_rfl) ?hy19 hHeld ?hr19
    case hy19 => (intro w hSw; (try dsimp only at hSw); go_simp; try (with_reducible rfl))
    case hr19 =>
    simp only [Act.put, List.setIfInBounds_toArray, List.set_cons_zero, List.set_cons_succ]
    refine held_yes 20 100 (v := ?_) rfl rfl (by kernel_rfl) (by kernel_rfl) (by kernel_rfl) (fun _ _ _ h => h) (by kernel_rfl) ?hy20 hHeld ?hr20
    case hy20 => (intro w hSw; (try dsimp only at hSw); go_simp; try (with_reducible rfl))
    case hr20 =>
    simp only [Act.put, List.setIfInBounds_toArray, List.set_cons_zero, List.set_cons_succ]
    refine held_yes 21 101 (v := ?_) rfl rfl (by kernel_rfl) (by kernel_rfl) (by kernel_rfl) (fun _ _ _ h => h) (by kernel_rfl) ?hy21 hHeld ?hr21
    case hy21 => (intro w hSw; (try dsimp only at hSw); go_simp; try (with_reducible rfl))
    case hr21 =>
    simp only [Act.put, List.setIfInBounds_toArray, List.set_cons_zero, List.set_cons_succ]
    refine held_skip 22 102 rfl rfl (by kernel_rfl) (by kernel_rfl) (by kernel_rfl) (fun _ _ _ h => h) (by kernel_rfl) hHeld ?_
    simp only [Act.put, List.setIfInBounds_toArray, List.set_cons_zero, List.set_cons_succ]
    refine held_skip 23 103 rfl rfl (by kernel_rfl) (by kernel_rfl) (by kernel_rfl) (fun _ _ _ h => h) (by kernel_rfl) hHeld ?_
    simp only [Act.put, List.setIfInBounds_toArray, List.set_cons_zero, List.set_cons_succ]
    refine held_skip 24 104 rfl rfl (by kernel_rfl) (by kernel_rfl) (by kernel_rfl) (fun _ _ _ h => h) (by kernel_rfl) hHeld ?_
    simp only [Act.put, List.setIfInBounds_toArray, List.set_cons_zero, List.set_cons_succ]
    refine held_skip 25 105 rfl rfl (by kernel_rfl) (by kernel_rfl) (by kernel_rfl) (fun _ _ _ h => h) (by kernel_rfl) hHeld ?_
    simp only [Act.put, List.setIfInBounds_toArray, List.set_cons_zero, List.set_cons_succ]
    refine held_skip 26 106 rfl rfl (by kernel_rfl) (by kernel_rfl) (by kernel_rfl) (fun _ _ _ h => h) (by kernel_rfl) hHeld ?_
    simp only [Act.put, List.setIfInBounds_toArray, List.set_cons_zero, List.set_cons_succ]
    refine held_skip 27 107 rfl rfl (by kernel_rfl) (by kernel_rfl) (by kernel_rfl) (fun _ _ _ h => h) (by kernel_rfl) hHeld ?_
    simp only [Act.put, List.setIfInBounds_toArray, List.set_cons_zero, List.set_cons_succ]
    refine held_skip 28 108 rfl rfl (by kernel_rfl) (by kernel_rfl) (by kernel_rfl) (fun _ _ _ h => h) (by kernel_rfl) hHeld ?_
    simp only [Act.put, List.setIfInBounds_toArray, List.set_cons_zero, List.set_cons_succ]
    refine held_yes 29 109 (v := ?_) rfl rfl (by kernel_rfl) (by kernel_rfl) (by kernel_rfl) (fun _ _ _ h => h) (by kernel_rfl) ?hy29 hHeld ?hr29
    case hy29 => (intro w hSw; (try dsimp only at hSw); go_simp; try (with_reducible rfl))
    case hr29 =>
    simp only [Act.put, List.setIfInBounds_toArray, List.set_cons_zero, List.set_cons_succ]
    refine held_yes 30 110 (v := ?_) rfl rfl (by kernel_rfl) (by kernel_rfl) (by kernel_rfl) (fun _ _ _ h => h) (by kernel_rfl) ?hy30 hHeld ?hr30
    case hy30 => (intro w hSw; (try dsimp only at hSw); go_simp; try (with_reducible rfl))
    case hr30 =>
    simp only [Act.put, List.setIfInBounds_toArray, List.set_cons_zero, List.set_cons_succ]
    refine held_yes 31 111 (v := ?_) rfl rfl (by kernel_rfl) (by kernel_rfl) (by kernel_rfl) (fun _ _ _ h => h) (by kernel_rfl) ?hy31 hHeld ?hr31
    case hy31 => (intro w hSw; (try dsimp only at hSw); go_simp; try (with_reducible rfl))
    case hr31 =>
    simp only [Act.put, List.setIfInBounds_toArray, List.set_cons_zero, List.set_cons_succ]
    refine held_yes 32 112 (v := ?_) rfl rfl (by kernel_rfl) (by kernel_rfl) (by kernel_rfl) (fun _ _ _ h => h) (by kernel_rfl) ?hy32 hHeld ?hr32
    case hy32 => (intro w hSw; (try dsimp only at hSw); go_simp; try (with_reducible rfl))
    case hr32 =>
    simp only [Act.put, List.setIfInBounds_toArray, List.set_cons_zero, List.set_cons_succ]
    refine held_yes 33 6 (v := ?_) rfl rfl (by kernel_rfl) (by kernel_rfl) (by kernel_rfl) (fun _ _ _ h => h) (by kernel_rfl) ?hy33 hHeld ?hr33
    case hy33 => (intro w hSw; (try dsimp only at hSw); go_simp; try (with_reducible rfl))
    case hr33 =>
    simp only [Act.put, List.setIfInBounds_toArray, List.set_cons_zero, List.set_cons_succ]
    refine wpAnyH_done (by kernel_rfl) ?_ _
    go_wp2
    go_ret
    exact ⟨ret_bool' (by first | (simp; done) | (simp; omega)), grown_trans hg0 (grown_trans hg1 (X9.later HG).since)⟩
  · have hcell : ∀ {wr : World}, (w9.alloc (.cells #[.int .u64 S2, .bool U2, .int .i64 O2] 26)).grownBy wr none →
        (wr.cell? ⟨w.heap.size, 0, none⟩ = some (.int .u64 s) ∧ wr.cell? ⟨w.heap.size, 1, none⟩ = some (.bool u) ∧ wr.cell? ⟨w.heap.size, 2, none⟩ = some (.int .i64 m)) ∧ (wr.cell? ⟨w.heap.size + 1, 0, none⟩ = some (.int .u64 x) ∧ wr.cell? ⟨w.heap.size + 1, 1, none⟩ = some (.int .u64 y)) ∧
        (wr.cell? ⟨w9.heap.size, 0, none⟩ = some (.int .u64 S2) ∧ wr.cell? ⟨w9.heap.size, 1, none⟩ = some (.bool U2) ∧ wr.cell? ⟨w9.heap.size, 2, none⟩ = some (.int .i64 O2)) := fun {wr} hg => by
      obtain ⟨k0, k1, k2, k3, k4⟩ := two_boxes (grown_trans hg1 (grown_trans X9.since hg))
      exact ⟨⟨k0, k1, k2⟩, ⟨k3, k4⟩, tag_cells (tag_first hg)⟩
    have HG : (w9.alloc (.cells #[.int .u64 S2, .bool U2, .int .i64 O2] 26)).grownBy (w9.alloc (.cells #[.int .u64 S2, .bool U2, .int .i64 O2] 26)).drew none := grown_drew (grown_refl _ _)
    refine wp_region_held_drew (S := fun wr => (wr.cell? ⟨w.heap.size, 0, none⟩ = some (.int .u64 s) ∧ wr.cell? ⟨w.heap.size, 1, none⟩ = some (.bool u) ∧ wr.cell? ⟨w.heap.size, 2, none⟩ = some (.int .i64 m)) ∧ (wr.cell? ⟨w.heap.size + 1, 0, none⟩ = some (.int .u64 x) ∧ wr.cell? ⟨w.heap.size + 1, 1, none⟩ = some (.int .u64 y)) ∧
        (wr.cell? ⟨w9.heap.size, 0, none⟩ = some (.int .u64 S2) ∧ wr.cell? ⟨w9.heap.size, 1, none⟩ = some (.bool U2) ∧ wr.cell? ⟨w9.heap.size, 2, none⟩ = some (.int .i64 O2))) (by kernel_rfl) (hcell HG) (fun hHeld => ?_)
    refine held_yes 0 80 (v := ?_) rfl rfl (by kernel_rfl) (by kernel_rfl) (by kernel_rfl) (fun _ _ _ h => h) (by kernel_rfl) ?hy0 hHeld ?hr0
    case hy0 => (intro w hSw; (try dsimp only at hSw); go_simp; try (with_reducible rfl))
    case hr0 =>
    simp only [Act.put, List.setIfInBounds_toArray, List.set_cons_zero, List.set_cons_succ]
    refine held_yes 1 81 (v := ?_) rfl rfl (by kernel_rfl) (by kernel_rfl) (by kernel_rfl) (fun _ _ _ h => h) (by kernel_rfl) ?hy1 hHeld ?hr1
    case hy1 => (intro w hSw; (try dsimp only at hSw); go_simp; try (with_reducible rfl))
    case hr1 =>
    simp only [Act.put, List.setIfInBounds_toArray, List.set_cons_zero, List.set_cons_succ]
    refine held_yes 2 82 (v := ?_) rfl rfl (by kernel_rfl) (by kernel_rfl) (by kernel_rfl) (fun _ _ _ h => h) (by kernel_rfl) ?hy2 hHeld ?hr2
    case hy2 => (intro w hSw; (try dsimp only at hSw); go_simp; try (with_reducible rfl))
    case hr2 =>
    simp only [Act.put, List.setIfInBounds_toArray, List.set_cons_zero, List.set_cons_succ]
    refine held_yes 3 83 (v := ?_) rfl rfl (by kernel_rfl) (by kernel_rfl) (by kernel_rfl) (fun _ _ _ h => h) (by kernel_rfl) ?hy3 hHeld ?hr3
    case hy3 => (intro w hSw; (try dsimp only at hSw); go_simp; try (with_reducible rfl))
    case hr3 =>
    simp only [Act.put, List.setIfInBounds_toArray, List.set_cons_zero, List.set_cons_succ]
    refine held_yes 4 84 (v := ?_) rfl rfl (by kernel_rfl) (by kernel_rfl) (by kernel_rfl) (fun _ _ _ h => h) (by kernel_rfl) ?hy4 hHeld ?hr4
    case hy4 => (intro w hSw; (try dsimp only at hSw); go_simp; try (with_reducible rfl))
    case hr4 =>
    simp only [Act.put, List.setIfInBounds_toArray, List.set_cons_zero, List.set_cons_succ]
    refine held_skip 5 85 rfl rfl (by kernel_rfl) (by kernel_rfl) (by kernel_rfl) (fun _ _ _ h => h) (by kernel_rfl) hHeld ?_
    simp only [Act.put, List.setIfInBounds_toArray, List.set_cons_zero, List.set_cons_succ]
    refine held_skip 6 86 rfl rfl (by kernel_rfl) (by kernel_rfl) (by kernel_rfl) (fun _ _ _ h => h) (by kernel_rfl) hHeld ?_
    simp only [Act.put, List.setIfInBounds_toArray, List.set_cons_zero, List.set_cons_succ]
    refine held_skip 7 87 rfl rfl (by kernel_rfl) (by kernel_rfl) (by kernel_rfl) (fun _ _ _ h => h) (by kernel_rfl) hHeld ?_
    simp only [Act.put, List.setIfInBounds_toArray, List.set_cons_zero, List.set_cons_succ]
    refine held_skip 8 88 rfl rfl (by kernel_rfl) (by kernel_rfl) (by kernel_rfl) (fun _ _ _ h => h) (by kernel_rfl) hHeld ?_
    simp only [Act.put, List.setIfInBounds_toArray, List.set_cons_zero, List.set_cons_succ]
    refine held_yes 9 89 (v := ?_) rfl rfl (by kernel_rfl) (by kernel_rfl) (by kernel_rfl) (fun _ _ _ h => h) (by kernel_rfl) ?hy9 hHeld ?hr9
    case hy9 => (intro w hSw; (try dsimp only at hSw); go_simp; try (with_reducible rfl))
    case hr9 =>
    simp only [Act.put, List.setIfInBounds_toArray, List.set_cons_zero, List.set_cons_succ]
    refine held_yes 10 90 (v := ?_) rfl rfl (by kernel_rfl) (by kernel_rfl) (by kernel_rfl) (fun _ _ _ h => h) (by kernel_rfl) ?hy10 hHeld ?hr10
    case hy10 => (intro w hSw; (try dsimp only at hSw); go_simp; try (with_reducible rfl))
    case hr10 =>
    simp only [Act.put, List.setIfInBounds_toArray, List.set_cons_zero, List.set_cons_succ]
    refine held_yes 11 91 (v := ?_) rfl rfl (by kernel_rfl) (by kernel_rfl) (by kernel_rfl) (fun _ _ _ h => h) (by kernel_rfl) ?hy11 hHeld ?hr11
    case hy11 => (intro w hSw; (try dsimp only at hSw); go_simp; try (with_reducible rfl))
    case hr11 =>
    simp only [Act.put, List.setIfInBounds_toArray, List.set_cons_zero, List.set_cons_succ]
    refine held_yes 12 92 (v := ?_) rfl rfl (by kernel_rfl) (by kernel_rfl) (by kernel_rfl) (fun _ _ _ h => h) (by kernel_rfl) ?hy12 hHeld ?hr12
    case hy12 => (intro w hSw; (try dsimp only at hSw); go_simp; try (with_reducible rfl))
    case hr12 =>
    simp only [Act.put, List.setIfInBounds_toArray, List.set_cons_zero, List.set_cons_succ]
    refine held_yes 13 93 (v := ?_) rfl rfl (by kernel_rfl) (by kernel_rfl) (by kernel_rfl) (fun _ _ _ h => h) (by kernel_rfl) ?hy13 hHeld ?hr13
    case hy13 => (intro w hSw; (try dsimp only at hSw); go_simp; try (with_reducible rfl))
    case hr13 =>
    simp only [Act.put, List.setIfInBounds_toArray, List.set_cons_zero, List.set_cons_succ]
    refine held_yes 14 94 (v := ?_) rfl rfl (by kernel_rfl) (by kernel_rfl) (by kernel_rfl) (fun _ _ _ h => h) (by kernel_rfl) ?hy14 hHeld ?hr14
    case hy14 => (intro w hSw; (try dsimp only at hSw); go_simp; try (with_reducible rfl))
    case hr14 =>
    simp only [Act.put, List.setIfInBounds_toArray, List.set_cons_zero, List.set_cons_succ]
    refine held_yes 15 95 (v := ?_) rfl rfl (by kernel_rfl) (by kernel_rfl) (by kernel_rfl) (fun _ _ _ h => h) (by kernel_rfl) ?hy15 hHeld ?hr15
    case hy15 => (intro w hSw; (try dsimp only at hSw); go_simp; try (with_reducible rfl))
    case hr15 =>
    simp only [Act.put, List.setIfInBounds_toArray, List.set_cons_zero, List.set_cons_succ]
    refine held_yes 16 96 (v := ?_) rfl rfl (by kernel_rfl) (by kernel_rfl) (by kernel_rfl) (fun _ _ _ h => h) (by kernel_rfl) ?hy16 hHeld ?hr16
    case hy16 => (intro w hSw; (try dsimp only at hSw); go_simp; try (with_reducible rfl))
    case hr16 =>
    simp only [Act.put, List.setIfInBounds_toArray, List.set_cons_zero, List.set_cons_succ]
    refine held_yes 17 97 (v := ?_) rfl rfl (by kernel_rfl) (by kernel_rfl) (by kernel_rfl) (fun _ _ _ h => h) (by kernel_rfl) ?hy17 hHeld ?hr17
    case hy17 => (intro w hSw; (try dsimp only at hSw); go_simp; try (with_reducible rfl))
    case hr17 =>
    simp only [Act.put, List.setIfInBounds_toArray, List.set_cons_zero, List.set_cons_succ]
    refine held_skip 18 98 rfl rfl (by kernel_rfl) (by kernel_rfl) (by kernel_rfl) (fun _ _ _ h => h) (by kernel_rfl) hHeld ?_
    simp only [Act.put, List.setIfInBounds_toArray, List.set_cons_zero, List.set_cons_succ]
    refine held_skip 19 99 rfl rfl (by kernel_rfl) (by kernel_rfl) (by kernel_rfl) (fun _ _ _ h => h) (by kernel_rfl) hHeld ?_
    simp only [Act.put, List.setIfInBounds_toArray, List.set_cons_zero, List.set_cons_succ]
    refine held_skip 20 100 rfl rfl (by kernel_rfl) (by kernel_rfl) (by kernel_rfl) (fun _ _ _ h => h) (by kernel_rfl) hHeld ?_
    simp only [Act.put, List.setIfInBounds_toArray, List.set_cons_zero, List.set_cons_succ]
    refine held_skip 21 101 rfl rfl (by kernel_rfl) (by kernel_rfl) (by kernel_rfl) (fun _ _ _ h => h) (by kernel_rfl) hHeld ?_
    simp only [Act.put, List.setIfInBounds_toArray, List.set_cons_zero, List.set_cons_succ]
    refine held_skip 22 102 rfl rfl (by kernel_rfl) (by kernel_rfl) (by kernel_rfl) (fun _ _ _ h => h) (by kernel_rfl) hHeld ?_
    simp only [Act.put, List.setIfInBounds_toArray, List.set_cons_zero, List.set_cons_succ]
    refine held_skip 23 103 rfl rfl (by kernel_rfl) (by kernel_rfl) (by kernel_rfl) (fun _ _ _ h => h) (by kernel_rfl) hHeld ?_
    simp only [Act.put, List.setIfInBounds_toArray, List.set_cons_zero, List.set_cons_succ]
    refine held_skip 24 104 rfl rfl (by kernel_rfl) (by kernel_rfl) (by kernel_rfl) (fun _ _ _ h => h) (by kernel_rfl) hHeld ?_
    simp only [Act.put, List.setIfInBounds_toArray, List.set_cons_zero, List.set_cons_succ]
    refine held_skip 25 105 rfl rfl (by kernel_rfl) (by kernel_rfl) (by kernel_rfl) (fun _ _ _ h => h) (by kernel_rfl) hHeld ?_
    simp only [Act.put, List.setIfInBounds_toArray, List.set_cons_zero, List.set_cons_succ]
    refine held_skip 26 106 rfl rfl (by kernel_rfl) (by kernel_rfl) (by kernel_rfl) (fun _ _ _ h => h) (by kernel_rfl) hHeld ?_
    simp only [Act.put, List.setIfInBounds_toArray, List.set_cons_zero, List.set_cons_succ]
    refine held_skip 27 107 rfl rfl (by kernel_rfl) (by kernel_rfl) (by kernel_rfl) (fun _ _ _ h => h) (by kernel_rfl) hHeld ?_
    simp only [Act.put, List.setIfInBounds_toArray, List.set_cons_zero, List.set_cons_succ]
    refine held_skip 28 108 rfl rfl (by kernel_rfl) (by kernel_rfl) (by kernel_rfl) (fun _ _ _ h => h) (by kernel_rfl) hHeld ?_
    simp only [Act.put, List.setIfInBounds_toArray, List.set_cons_zero, List.set_cons_succ]
    refine held_skip 29 109 rfl rfl (by kernel_rfl) (by kernel_rfl) (by kernel_rfl) (fun _ _ _ h => h) (by kernel_rfl) hHeld ?_
    simp only [Act.put, List.setIfInBounds_toArray, List.set_cons_zero, List.set_cons_succ]
    refine held_yes 30 110 (v := ?_) rfl rfl (by kernel_rfl) (by kernel_rfl) (by kernel_rfl) (fun _ _ _ h => h) (by kernel_rfl) ?hy30 hHeld ?hr30
    case hy30 => (intro w hSw; (try dsimp only at hSw); go_simp; try (with_reducible rfl))
    case hr30 =>
    simp only [Act.put, List.setIfInBounds_toArray, List.set_cons_zero, List.set_cons_succ]
    refine held_yes 31 111 (v := ?_) rfl rfl (by kernel_rfl) (by kernel_rfl) (by kernel_rfl) (fun _ _ _ h => h) (by kernel_rfl) ?hy31 hHeld ?hr31
    case hy31 => (intro w hSw; (try dsimp only at hSw); go_simp; try (with_reducible rfl))
    case hr31 =>
    simp only [Act.put, List.setIfInBounds_toArray, List.set_cons_zero, List.set_cons_succ]
    refine held_yes 32 112 (v := ?_) rfl rfl (by kernel_rfl) (by kernel_rfl) (by kernel_rfl) (fun _ _ _ h => h) (by kernel_rfl) ?hy32 hHeld ?hr32
    case hy32 => (intro w hSw; (try dsimp only at hSw); go_simp; try (with_reducible rfl))
    case hr32 =>
    simp only [Act.put, List.setIfInBounds_toArray, List.set_cons_zero, List.set_cons_succ]
    refine held_yes 33 6 (v := ?_) rfl rfl (by kernel_rfl) (by kernel_rfl) (by kernel_rfl) (fun _ _ _ h => h) (by kernel_rfl) ?hy33 hHeld ?hr33
    case hy33 => (intro w hSw; (try dsimp only at hSw); go_simp; try (with_reducible rfl))
    case hr33 =>
    simp only [Act.put, List.setIfInBounds_toArray, List.set_cons_zero, List.set_cons_succ]
    refine wpAnyH_done (by kernel_rfl) ?_ _
    go_wp2
    go_ret
    exact ⟨ret_bool' (by first | (simp; done) | (simp; omega)), grown_trans hg0 (grown_trans hg1 (X9.later HG).since)⟩
  · have hcell : ∀ {wr : World}, (w9.alloc (.cells #[.int .u64 S2, .bool U2, .int .i64 O2] 26)).grownBy wr none →
        (wr.cell? ⟨w.heap.size, 0, none⟩ = some (.int .u64 s) ∧ wr.cell? ⟨w.heap.size, 1, none⟩ = some (.bool u) ∧ wr.cell? ⟨w.heap.size, 2, none⟩ = some (.int .i64 m)) ∧ (wr.cell? ⟨w.heap.size + 1, 0, none⟩ = some (.int .u64 x) ∧ wr.cell? ⟨w.heap.size + 1, 1, none⟩ = some (.int .u64 y)) ∧
        (wr.cell? ⟨w9.heap.size, 0, none⟩ = some (.int .u64 S2) ∧ wr.cell? ⟨w9.heap.size, 1, none⟩ = some (.bool U2) ∧ wr.cell? ⟨w9.heap.size, 2, none⟩ = some (.int .i64 O2)) := fun {wr} hg => by
      obtain ⟨k0, k1, k2, k3, k4⟩ := two_boxes (grown_trans hg1 (grown_trans X9.since hg))
      exact ⟨⟨k0, k1, k2⟩, ⟨k3, k4⟩, tag_cells (tag_first hg)⟩
    have HG : (w9.alloc (.cells #[.int .u64 S2, .bool U2, .int .i64 O2] 26)).grownBy (w9.alloc (.cells #[.int .u64 S2, .bool U2, .int .i64 O2] 26)).drew none := grown_drew (grown_refl _ _)
    refine wp_region_held_drew (S := fun wr => (wr.cell? ⟨w.heap.size, 0, none⟩ = some (.int .u64 s) ∧ wr.cell? ⟨w.heap.size, 1, none⟩ = some (.bool u) ∧ wr.cell? ⟨w.heap.size, 2, none⟩ = some (.int .i64 m)) ∧ (wr.cell? ⟨w.heap.size + 1, 0, none⟩ = some (.int .u64 x) ∧ wr.cell? ⟨w.heap.size + 1, 1, none⟩ = some (.int .u64 y)) ∧
        (wr.cell? ⟨w9.heap.size, 0, none⟩ = some (.int .u64 S2) ∧ wr.cell? ⟨w9.heap.size, 1, none⟩ = some (.bool U2) ∧ wr.cell? ⟨w9.heap.size, 2, none⟩ = some (.int .i64 O2))) (by kernel_rfl) (hcell HG) (fun hHeld => ?_)
    refine held_yes 0 80 (v := ?_) rfl rfl (by kernel_rfl) (by kernel_rfl) (by kernel_rfl) (fun _ _ _ h => h) (by kernel_rfl) ?hy0 hHeld ?hr0
    case hy0 => (intro w hSw; (try dsimp only at hSw); go_simp; try (with_reducible rfl))
    case hr0 =>
    simp only [Act.put, List.setIfInBounds_toArray, List.set_cons_zero, List.set_cons_succ]
    refine held_yes 1 81 (v := ?_) rfl rfl (by kernel_rfl) (by kernel_rfl) (by kernel_rfl) (fun _ _ _ h => h) (by kernel_rfl) ?hy1 hHeld ?hr1
    case hy1 => (intro w hSw; (try dsimp only at hSw); go_simp; try (with_reducible rfl))
    case hr1 =>
    simp only [Act.put, List.setIfInBounds_toArray, List.set_cons_zero, List.set_cons_succ]
    refine held_yes 2 82 (v := ?_) rfl rfl (by kernel_rfl) (by kernel_rfl) (by kernel_rfl) (fun _ _ _ h => h) (by kernel_rfl) ?hy2 hHeld ?hr2
    case hy2 => (intro w hSw; (try dsimp only at hSw); go_simp; try (with_reducible rfl))
    case hr2 =>
    simp only [Act.put, List.setIfInBounds_toArray, List.set_cons_zero, List.set_cons_succ]
    refine held_yes 3 83 (v := ?_) rfl rfl (by kernel_rfl) (by kernel_rfl) (by kernel_rfl) (fun _ _ _ h => h) (by kernel_rfl) ?hy3 hHeld ?hr3
    case hy3 => (intro w hSw; (try dsimp only at hSw); go_simp; try (with_reducible rfl))
    case hr3 =>
    simp only [Act.put, List.setIfInBounds_toArray, List.set_cons_zero, List.set_cons_succ]
    refine held_yes 4 84 (v := ?_) rfl rfl (by kernel_rfl) (by kernel_rfl) (by kernel_rfl) (fun _ _ _ h => h) (by kernel_rfl) ?hy4 hHeld ?hr4
    case hy4 => (intro w hSw; (try dsimp only at hSw); go_simp; try (with_reducible rfl))
    case hr4 =>
    simp only [Act.put, List.setIfInBounds_toArray, List.set_cons_zero, List.set_cons_succ]
    refine held_skip 5 85 rfl rfl (by kernel_rfl) (by kernel_rfl) (by kernel_rfl) (fun _ _ _ h => h) (by kernel_rfl) hHeld ?_
    simp only [Act.put, List.setIfInBounds_toArray, List.set_cons_zero, List.set_cons_succ]
    refine held_skip 6 86 rfl rfl (by kernel_rfl) (by kernel_rfl) (by kernel_rfl) (fun _ _ _ h => h) (by kernel_rfl) hHeld ?_
    simp only [Act.put, List.setIfInBounds_toArray, List.set_cons_zero, List.set_cons_succ]
    refine held_skip 7 87 rfl rfl (by kernel_rfl) (by kernel_rfl) (by kernel_rfl) (fun _ _ _ h => h) (by kernel_rfl) hHeld ?_
    simp only [Act.put, List.setIfInBounds_toArray, List.set_cons_zero, List.set_cons_succ]
    refine held_skip 8 88 rfl rfl (by kernel_rfl) (by kernel_rfl) (by kernel_rfl) (fun _ _ _ h => h) (by kernel_rfl) hHeld ?_
    simp only [Act.put, List.setIfInBounds_toArray, List.set_cons_zero, List.set_cons_succ]
    refine held_yes 9 89 (v := ?_) rfl rfl (by kernel_rfl) (by kernel_rfl) (by kernel_rfl) (fun _ _ _ h => h) (by kernel_rfl) ?hy9 hHeld ?hr9
    case hy9 => (intro w hSw; (try dsimp only at hSw); go_simp; try (with_reducible rfl))
    case hr9 =>
    simp only [Act.put, List.setIfInBounds_toArray, List.set_cons_zero, List.set_cons_succ]
    refine held_yes 10 90 (v := ?_) rfl rfl (by kernel_rfl) (by kernel_rfl) (by kernel_rfl) (fun _ _ _ h => h) (by kernel_rfl) ?hy10 hHeld ?hr10
    case hy10 => (intro w hSw; (try dsimp only at hSw); go_simp; try (with_reducible rfl))
    case hr10 =>
    simp only [Act.put, List.setIfInBounds_toArray, List.set_cons_zero, List.set_cons_succ]
    refine held_yes 11 91 (v := ?_) rfl rfl (by kernel_rfl) (by kernel_rfl) (by kernel_rfl) (fun _ _ _ h => h) (by kernel_rfl) ?hy11 hHeld ?hr11
    case hy11 => (intro w hSw; (try dsimp only at hSw); go_simp; try (with_reducible rfl))
    case hr11 =>
    simp only [Act.put, List.setIfInBounds_toArray, List.set_cons_zero, List.set_cons_succ]
    refine held_skip 12 92 rfl rfl (by kernel_rfl) (by kernel_rfl) (by kernel_rfl) (fun _ _ _ h => h) (by kernel_rfl) hHeld ?_
    simp only [Act.put, List.setIfInBounds_toArray, List.set_cons_zero, List.set_cons_succ]
    refine held_skip 13 93 rfl rfl (by kernel_rfl) (by kernel_rfl) (by kernel_rfl) (fun _ _ _ h => h) (by kernel_rfl) hHeld ?_
    simp only [Act.put, List.setIfInBounds_toArray, List.set_cons_zero, List.set_cons_succ]
    refine held_skip 14 94 rfl rfl (by kernel_rfl) (by kernel_rfl) (by kernel_rfl) (fun _ _ _ h => h) (by kernel_rfl) hHeld ?_
    simp only [Act.put, List.setIfInBounds_toArray, List.set_cons_zero, List.set_cons_succ]
    refine held_skip 15 95 rfl rfl (by kernel_rfl) (by kernel_rfl) (by kernel_rfl) (fun _ _ _ h => h) (by kernel_rfl) hHeld ?_
    simp only [Act.put, List.setIfInBounds_toArray, List.set_cons_zero, List.set_cons_succ]
    refine held_yes 16 96 (v := ?_) rfl rfl (by kernel_rfl) (by kernel_rfl) (by kernel_rfl) (fun _ _ _ h => h) (by kernel_rfl) ?hy16 hHeld ?hr16
    case hy16 => (intro w hSw; (try dsimp only at hSw); go_simp; try (with_reducible rfl))
    case hr16 =>
    simp only [Act.put, List.setIfInBounds_toArray, List.set_cons_zero, List.set_cons_succ]
    refine held_yes 17 97 (v := ?_) rfl rfl (by kernel_rfl) (by kernel_rfl) (by kernel_rfl) (fun _ _ _ h => h) (by kernel_rfl) ?hy17 hHeld ?hr17
    case hy17 => (intro w hSw; (try dsimp only at hSw); go_simp; try (with_reducible rfl))
    case hr17 =>
    simp only [Act.put, List.setIfInBounds_toArray, List.set_cons_zero, List.set_cons_succ]
    refine held_yes 18 98 (v := ?_) rfl rfl (by kernel_rfl) (by kernel_rfl) (by kernel_rfl) (fun _ _ _ h => h) (by kernel_rfl) ?hy18 hHeld ?hr18
    case hy18 => (intro w hSw; (try dsimp only at hSw); go_simp; try (with_reducible rfl))
    case hr18 =>
    simp only [Act.put, List.setIfInBounds_toArray, List.set_cons_zero, List.set_cons_succ]
    refine held_yes 19 99 (v := ?_) rfl rfl (by kernel_rfl) (by kernel_rfl) (by kernel_rfl) (fun _ _ _ h => h) (by kernel_rfl) ?hy19 hHeld ?hr19
    case hy19 => (intro w hSw; (try dsimp only at hSw); go_simp; try (with_reducible rfl))
    case hr19 =>
    simp only [Act.put, List.setIfInBounds_toArray, List.set_cons_zero, List.set_cons_succ]
    refine held_yes 20 100 (v := ?_) rfl rfl (by kernel_rfl) (by kernel_rfl) (by kernel_rfl) (fun _ _ _ h => h) (by kernel_rfl) ?hy20 hHeld ?hr20
    case hy20 => (intro w hSw; (try dsimp only at hSw); go_simp; try (with_reducible rfl))
    case hr20 =>
    simp only [Act.put, List.setIfInBounds_toArray, List.set_cons_zero, List.set_cons_succ]
    refine held_yes 21 101 (v := ?_) rfl rfl (by kernel_rfl) (by kernel_rfl) (by kernel_rfl) (fun _ _ _ h => h) (by kernel_rfl) ?hy21 hHeld ?hr21
    case hy21 => (intro w hSw; (try dsimp only at hSw); go_simp; try (with_reducible rfl))
    case hr21 =>
    simp only [Act.put, List.setIfInBounds_toArray, List.set_cons_zero, List.set_cons_succ]
    refine held_yes 22 102 (v := ?_) rfl rfl (by kernel_rfl) (by kernel_rfl) (by kernel_rfl) (fun _ _ _ h => h) (by kernel_rfl) ?hy22 hHeld ?hr22
    case hy22 => (intro w hSw; (try dsimp only at hSw); go_simp; try (with_reducible rfl))
    case hr22 =>
    simp only [Act.put, List.setIfInBounds_toArray, List.set_cons_zero, List.set_cons_succ]
    refine held_yes 24 104 (v := ?_) rfl rfl (by kernel_rfl) (by kernel_rfl) (by kernel_rfl) (fun _ _ _ h => h) (by kernel_rfl) ?hy24 hHeld ?hr24
    case hy24 => (intro w hSw; (try dsimp only at hSw); go_simp; try (with_reducible rfl))
    case hr24 =>
    simp only [Act.put, List.setIfInBounds_toArray, List.set_cons_zero, List.set_cons_succ]
    refine held_yes 25 105 (v := ?_) rfl rfl (by kernel_rfl) (by kernel_rfl) (by kernel_rfl) (fun _ _ _ h => h) (by kernel_rfl) ?hy25 hHeld ?hr25
    case hy25 => (intro w hSw; (try dsimp only at hSw); go_simp; try (with_reducible rfl))
    case hr25 =>
    simp only [Act.put, List.setIfInBounds_toArray, List.set_cons_zero, List.set_cons_succ]
    refine held_yes 26 106 (v := ?_) rfl rfl (by kernel_rfl) (by kernel_rfl) (by kernel_rfl) (fun _ _ _ h => h) (by kernel_rfl) ?hy26 hHeld ?hr26
    case hy26 => (intro w hSw; (try dsimp only at hSw); go_simp; try (with_reducible rfl))
    case hr26 =>
    simp only [Act.put, List.setIfInBounds_toArray, List.set_cons_zero, List.set_cons_succ]
    refine held_yes 27 107 (v := ?_) rfl rfl (by kernel_rfl) (by kernel_rfl) (by kernel_rfl) (fun _ _ _ h => h) (by kernel_rfl) ?hy27 hHeld ?hr27
    case hy27 => (intro w hSw; (try dsimp only at hSw); go_simp; try (with_reducible rfl))
    case hr27 =>
    simp only [Act.put, List.setIfInBounds_toArray, List.set_cons_zero, List.set_cons_succ]
    refine wpAnyH_ready (rs := [23]) (by kernel_rfl) (by simp) (AllReadyH.cons rfl (fun K hK => ?_) AllReadyH.nil)
    clear hHeld
    go_simp
    ((first | (go_at_call 12; ((with_reducible refine (hmd _).mono ?_); rintro e wz ⟨rfl, hgz⟩; replace HG := grown_trans HG hgz)) | (go_at_call 21; ((with_reducible refine (hl16 _ _ _ _ _ _ (X9.later HG).tx).mono ?_); rintro e wz ⟨rfl, hgz⟩; replace HG := grown_trans HG hgz))))
    refine hK.out _ _ (hcell HG) (fun hHeld => ?_)
    clear hK K
    try simp only [Act.put, List.setIfInBounds_toArray, List.set_cons_zero, List.set_cons_succ]
    refine held_yes 28 108 (v := ?_) rfl rfl (by kernel_rfl) (by kernel_rfl) (by kernel_rfl) (fun _ _ _ h => h) (by kernel_rfl) ?hy28 hHeld ?hr28
    case hy28 => (intro w hSw; (try dsimp only at hSw); go_simp; try (with_reducible rfl))
    case hr28 =>
    simp only [Act.put, List.setIfInBounds_toArray, List.set_cons_zero, List.set_cons_succ]
    refine held_yes 29 109 (v := ?_) rfl rfl (by kernel_rfl) (by kernel_rfl) (by kernel_rfl) (fun _ _ _ h => h) (by kernel_rfl) ?hy29 hHeld ?hr29
    case hy29 => (intro w hSw; (try dsimp only at hSw); go_simp; try (with_reducible rfl))
    case hr29 =>
    simp only [Act.put, List.setIfInBounds_toArray, List.set_cons_zero, List.set_cons_succ]
    refine held_yes 30 110 (v := ?_) rfl rfl (by kernel_rfl) (by kernel_rfl) (by kernel_rfl) (fun _ _ _ h => h) (by kernel_rfl) ?hy30 hHeld ?hr30
    case hy30 => (intro w hSw; (try dsimp only at hSw); go_simp; try (with_reducible rfl))
    case hr30 =>
    simp only [Act.put, List.setIfInBounds_toArray, List.set_cons_zero, List.set_cons_succ]
    refine held_yes 31 111 (v := ?_) rfl rfl (by kernel_rfl) (by kernel_rfl) (by kernel_rfl) (fun _ _ _ h => h) (by kernel_rfl) ?hy31 hHeld ?hr31
    case hy31 => (intro w hSw; (try dsimp only at hSw); go_simp; try (with_reducible rfl))
    case hr31 =>
    simp only [Act.put, List.setIfInBounds_toArray, List.set_cons_zero, List.set_cons_succ]
    refine held_yes 32 112 (v := ?_) rfl rfl (by kernel_rfl) (by kernel_rfl) (by kernel_rfl) (fun _ _ _ h => h) (by kernel_rfl) ?hy32 hHeld ?hr32
    case hy32 => (intro w hSw; (try dsimp only at hSw); go_simp; try (with_reducible rfl))
    case hr32 =>
    simp only [Act.put, List.setIfInBounds_toArray, List.set_cons_zero, List.set_cons_succ]
    refine held_yes 33 6 (v := ?_) rfl rfl (by kernel_rfl) (by kernel_rfl) (by kernel_rfl) (fun _ _ _ h => h) (by kernel_rfl) ?hy33 hHeld ?hr33
    case hy33 => (intro w hSw; (try dsimp only at hSw); go_simp; try (with_reducible rfl))
    case hr33 =>
    simp only [Act.put, List.setIfInBounds_toArray, List.set_cons_zero, List.set_cons_succ]
    refine wpAnyH_done (by kernel_rfl) ?_ _
    go_wp2
    go_ret
    exact ⟨ret_bool' (by first | (simp; done) | (simp; omega)), grown_trans hg0 (grown_trans hg1 (X9.later HG).since)⟩
  · have hcell : ∀ {wr : World}, (w9.alloc (.cells #[.int .u64 s, .bool u, .int .i64 m] 26)).grownBy wr none →
        (wr.cell? ⟨w.heap.size, 0, none⟩ = some (.int .u64 s) ∧ wr.cell? ⟨w.heap.size, 1, none⟩ = some (.bool u) ∧ wr.cell? ⟨w.heap.size, 2, none⟩ = some (.int .i64 m)) ∧ (wr.cell? ⟨w.heap.size + 1, 0, none⟩ = some (.int .u64 x) ∧ wr.cell? ⟨w.heap.size + 1, 1, none⟩ = some (.int .u64 y)) ∧
        (wr.cell? ⟨w9.heap.size, 0, none⟩ = some (.int .u64 s) ∧ wr.cell? ⟨w9.heap.size, 1, none⟩ = some (.bool u) ∧ wr.cell? ⟨w9.heap.size, 2, none⟩ = some (.int .i64 m)) := fun {wr} hg => by
      obtain ⟨k0, k1, k2, k3, k4⟩ := two_boxes (grown_trans hg1 (grown_trans X9.since hg))
      exact ⟨⟨k0, k1, k2⟩, ⟨k3, k4⟩, tag_cells (tag_first hg)⟩
    have HG : (w9.alloc (.cells #[.int .u64 s, .bool u, .int .i64 m] 26)).grownBy (w9.alloc (.cells #[.int .u64 s, .bool u, .int .i64 m] 26)).drew none := grown_drew (grown_refl _ _)
    refine wp_region_held_drew (S := fun wr => (wr.cell? ⟨w.heap.size, 0, none⟩ = some (.int .u64 s) ∧ wr.cell? ⟨w.heap.size, 1, none⟩ = some (.bool u) ∧ wr.cell? ⟨w.heap.size, 2, none⟩ = some (.int .i64 m)) ∧ (wr.cell? ⟨w.heap.size + 1, 0, none⟩ = some (.int .u64 x) ∧ wr.cell? ⟨w.heap.size + 1, 1, none⟩ = some (.int .u64 y)) ∧
        (wr.cell? ⟨w9.heap.size, 0, none⟩ = some (.int .u64 s) ∧ wr.cell? ⟨w9.heap.size, 1, none⟩ = some (.bool u) ∧ wr.cell? ⟨w9.heap.size, 2, none⟩ = some (.int .i64 m))) (by kernel_rfl) (hcell HG) (fun hHeld => ?_)
    refine held_yes 0 80 (v := ?_) rfl rfl (by kernel_rfl) (by kernel_rfl) (by kernel_rfl) (fun _ _ _ h => h) (by kernel_rfl) ?hy0 hHeld ?hr0
    case hy0 => (intro w hSw; (try dsimp only at hSw); go_simp; try (with_reducible rfl))
    case hr0 =>
    simp only [Act.put, List.setIfInBounds_toArray, List.set_cons_zero, List.set_cons_succ]
    refine held_yes 1 81 (v := ?_) rfl rfl (by kernel_rfl) (by kernel_rfl) (by kernel_rfl) (fun _ _ _ h => h) (by kernel_rfl) ?hy1 hHeld ?hr1
    case hy1 => (intro w hSw; (try dsimp only at hSw); go_simp; try (with_reducible rfl))
    case hr1 =>
    simp only [Act.put, List.setIfInBounds_toArray, List.set_cons_zero, List.set_cons_succ]
    refine held_yes 2 82 (v := ?_) rfl rfl (by kernel_rfl) (by kernel_rfl) (by kernel_rfl) (fun _ _ _ h => h) (by kernel_rfl) ?hy2 hHeld ?hr2
    case hy2 => (intro w hSw; (try dsimp only at hSw); go_simp; try (with_reducible rfl))
    case hr2 =>
    simp only [Act.put, List.setIfInBounds_toArray, List.set_cons_zero, List.set_cons_succ]
    refine held_yes 3 83 (v := ?_) rfl rfl (by kernel_rfl) (by kernel_rfl) (by kernel_rfl) (fun _ _ _ h => h) (by kernel_rfl) ?hy3 hHeld ?hr3
    case hy3 => (intro w hSw; (try dsimp only at hSw); go_simp; try (with_reducible rfl))
    case hr3 =>
    simp only [Act.put, List.setIfInBounds_toArray, List.set_cons_zero, List.set_cons_succ]
    refine held_yes 4 84 (v := ?_) rfl rfl (by kernel_rfl) (by kernel_rfl) (by kernel_rfl) (fun _ _ _ h => h) (by kernel_rfl) ?hy4 hHeld ?hr4
    case hy4 => (intro w hSw; (try dsimp only at hSw); go_simp; try (with_reducible rfl))
    case hr4 =>
    simp only [Act.put, List.setIfInBounds_toArray, List.set_cons_zero, List.set_cons_succ]
    refine held_yes 5 85 (v := ?_) rfl rfl (by kernel_rfl) (by kernel_rfl) (by kernel_rfl) (fun _ _ _ h => h) (by kernel_rfl) ?hy5 hHeld ?hr5
    case hy5 => (intro w hSw; (try dsimp only at hSw); go_simp; try (with_reducible rfl))
    case hr5 =>
    simp only [Act.put, List.setIfInBounds_toArray, List.set_cons_zero, List.set_cons_succ]
    refine held_yes 6 86 (v := ?_) rfl rfl (by kernel_rfl) (by kernel_rfl) (by kernel_rfl) (fun _ _ _ h => h) (by kernel_rfl) ?hy6 hHeld ?hr6
    case hy6 => (intro w hSw; (try dsimp only at hSw); go_simp; try (with_reducible rfl))
    case hr6 =>
    simp only [Act.put, List.setIfInBounds_toArray, List.set_cons_zero, List.set_cons_succ]
    refine held_yes 10 90 (v := ?_) rfl rfl (by kernel_rfl) (by kernel_rfl) (by kernel_rfl) (fun _ _ _ h => h) (by kernel_rfl) ?hy10 hHeld ?hr10
    case hy10 => (intro w hSw; (try dsimp only at hSw); go_simp; try (with_reducible rfl))
    case hr10 =>
    simp only [Act.put, List.setIfInBounds_toArray, List.set_cons_zero, List.set_cons_succ]
    refine wpAnyH_ready (rs := [7]) (by kernel_rfl) (by simp) (AllReadyH.cons rfl (fun K hK => ?_) AllReadyH.nil)
    clear hHeld
    go_simp
    ((first | (go_at_call 12; ((with_reducible refine (hmd _).mono ?_); rintro e wz ⟨rfl, hgz⟩; replace HG := grown_trans HG hgz)) | (go_at_call 21; ((with_reducible refine (hl16 _ _ _ _ _ _ (X9.later HG).tx).mono ?_); rintro e wz ⟨rfl, hgz⟩; replace HG := grown_trans HG hgz))))
    refine hK.out _ _ (hcell HG) (fun hHeld => ?_)
    clear hK K
    try simp only [Act.put, List.setIfInBounds_toArray, List.set_cons_zero, List.set_cons_succ]
    refine held_yes 8 88 (v := ?_) rfl rfl (by kernel_rfl) (by kernel_rfl) (by kernel_rfl) (fun _ _ _ h => h) (by kernel_rfl) ?hy8 hHeld ?hr8
    case hy8 => (intro w hSw; (try dsimp only at hSw); go_simp; try (with_reducible rfl))
    case hr8 =>
    simp only [Act.put, List.setIfInBounds_toArray, List.set_cons_zero, List.set_cons_succ]
    refine held_yes 9 89 (v := ?_) rfl rfl (by kernel_rfl) (by kernel_rfl) (by kernel_rfl) (fun _ _ _ h => h) (by kernel_rfl) ?hy9 hHeld ?hr9
    case hy9 => (intro w hSw; (try dsimp only at hSw); go_simp; try (with_reducible rfl))
    case hr9 =>
    simp only [Act.put, List.setIfInBounds_toArray, List.set_cons_zero, List.set_cons_succ]
    refine held_yes 11 91 (v := ?_) rfl rfl (by kernel_rfl) (by kernel_rfl) (by kernel_rfl) (fun _ _ _ h => h) (by kernel_rfl) ?hy11 hHeld ?hr11
    case hy11 => (intro w hSw; (try dsimp only at hSw); go_simp; try (with_reducible rfl))
    case hr11 =>
    simp only [Act.put, List.setIfInBounds_toArray, List.set_cons_zero, List.set_cons_succ]
    refine held_skip 12 92 rfl rfl (by kernel_rfl) (by kernel_rfl) (by kernel_rfl) (fun _ _ _ h => h) (by kernel_rfl) hHeld ?_
    simp only [Act.put, List.setIfInBounds_toArray, List.set_cons_zero, List.set_cons_succ]
    refine held_skip 13 93 rfl rfl (by kernel_rfl) (by kernel_rfl) (by kernel_rfl) (fun _ _ _ h => h) (by kernel_rfl) hHeld ?_
    simp only [Act.put, List.setIfInBounds_toArray, List.set_cons_zero, List.set_cons_succ]
    refine held_skip 14 94 rfl rfl (by kernel_rfl) (by kernel_rfl) (by kernel_rfl) (fun _ _ _ h => h) (by kernel_rfl) hHeld ?_
    simp only [Act.put, List.setIfInBounds_toArray, List.set_cons_zero, List.set_cons_succ]
    refine held_skip 15 95 rfl rfl (by kernel_rfl) (by kernel_rfl) (by kernel_rfl) (fun _ _ _ h => h) (by kernel_rfl) hHeld ?_
    simp only [Act.put, List.setIfInBounds_toArray, List.set_cons_zero, List.set_cons_succ]
    refine held_yes 16 96 (v := ?_) rfl rfl (by kernel_rfl) (by kernel_rfl) (by kernel_rfl) (fun _ _ _ h => h) (by kernel_rfl) ?hy16 hHeld ?hr16
    case hy16 => (intro w hSw; (try dsimp only at hSw); go_simp; try (with_reducible rfl))
    case hr16 =>
    simp only [Act.put, List.setIfInBounds_toArray, List.set_cons_zero, List.set_cons_succ]
    refine held_yes 17 97 (v := ?_) rfl rfl (by kernel_rfl) (by kernel_rfl) (by kernel_rfl) (fun _ _ _ h => h) (by kernel_rfl) ?hy17 hHeld ?hr17
    case hy17 => (intro w hSw; (try dsimp only at hSw); go_simp; try (with_reducible rfl))
    case hr17 =>
    simp only [Act.put, List.setIfInBounds_toArray, List.set_cons_zero, List.set_cons_succ]
    refine held_yes 18 98 (v := ?_) rfl rfl (by kernel_rfl) (by kernel_rfl) (by kernel_rfl) (fun _ _ _ h => h) (by kernel_rfl) ?hy18 hHeld ?hr18
    case hy18 => (intro w hSw; (try dsimp only at hSw); go_simp; try (with_reducible rfl))
    case hr18 =>
    simp only [Act.put, List.setIfInBounds_toArray, List.set_cons_zero, List.set_cons_succ]
    refine held_yes 19 99 (v := ?_) rfl rfl (by kernel_rfl) (by kernel_rfl) (by kernel_rfl) (fun _ _ _ h => h) (by kernel_rfl) ?hy19 hHeld ?hr19
    case hy19 => (intro w hSw; (try dsimp only at hSw); go_simp; try (with_reducible rfl))
    case hr19 =>
    simp only [Act.put, List.setIfInBounds_toArray, List.set_cons_zero, List.set_cons_succ]
    refine held_yes 20 100 (v := ?_) rfl rfl (by kernel_rfl) (by kernel_rfl) (by kernel_rfl) (fun _ _ _ h => h) (by kernel_rfl) ?hy20 hHeld ?hr20
    case hy20 => (intro w hSw; (try dsimp only at hSw); go_simp; try (with_reducible rfl))
    case hr20 =>
    simp only [Act.put, List.setIfInBounds_toArray, List.set_cons_zero, List.set_cons_succ]
    refine held_yes 21 101 (v := ?_) rfl rfl (by kernel_rfl) (by kernel_rfl) (by kernel_rfl) (fun _ _ _ h => h) (by kernel_rfl) ?hy21 hHeld ?hr21
    case hy21 => (intro w hSw; (try dsimp only at hSw); go_simp; try (with_reducible rfl))
    case hr21 =>
    simp only [Act.put, List.setIfInBounds_toArray, List.set_cons_zero, List.set_cons_succ]
    refine held_yes 22 102 (v := ?_) rfl rfl (by kernel_rfl) (by kernel_rfl) (by kernel_rfl) (fun _ _ _ h => h) (by kernel_rfl) ?hy22 hHeld ?hr22
    case hy22 => (intro w hSw; (try dsimp only at hSw); go_simp; try (with_reducible rfl))
    case hr22 =>
    simp only [Act.put, List.setIfInBounds_toArray, List.set_cons_zero, List.set_cons_succ]
    refine held_yes 24 104 (v := ?_) rfl rfl (by kernel_rfl) (by kernel_rfl) (by kernel_rfl) (fun _ _ _ h => h) (by kernel_rfl) ?hy24 hHeld ?hr24
    case hy24 => (intro w hSw; (try dsimp only at hSw); go_simp; try (with_reducible rfl))
    case hr24 =>
    simp only [Act.put, List.setIfInBounds_toArray, List.set_cons_zero, List.set_cons_succ]
    refine held_yes 25 105 (v := ?_) rfl rfl (by kernel_rfl) (by kernel_rfl) (by kernel_rfl) (fun _ _ _ h => h) (by kernel_rfl) ?hy25 hHeld ?hr25
    case hy25 => (intro w hSw; (try dsimp only at hSw); go_simp; try (with_reducible rfl))
    case hr25 =>
    simp only [Act.put, List.setIfInBounds_toArray, List.set_cons_zero, List.set_cons_succ]
    refine held_yes 26 106 (v := ?_) rfl rfl (by kernel_rfl) (by kernel_rfl) (by kernel_rfl) (fun _ _ _ h => h) (by kernel_rfl) ?hy26 hHeld ?hr26
    case hy26 => (intro w hSw; (try dsimp only at hSw); go_simp; try (with_reducible rfl))
    case hr26 =>
    simp only [Act.put, List.setIfInBounds_toArray, List.set_cons_zero, List.set_cons_succ]
    refine held_yes 27 107 (v := ?_) rfl rfl (by kernel_rfl) (by kernel_rfl) (by kernel_rfl) (fun _ _ _ h => h) (by kernel_rfl) ?hy27 hHeld ?hr27
    case hy27 => (intro w hSw; (try dsimp only at hSw); go_simp; try (with_reducible rfl))
    case hr27 =>
    simp only [Act.put, List.setIfInBounds_toArray, List.set_cons_zero, List.set_cons_succ]
    refine wpAnyH_ready (rs := [23]) (by kernel_rfl) (by simp) (AllReadyH.cons rfl (fun K hK => ?_) AllReadyH.nil)
    clear hHeld
    go_simp
    ((first | (go_at_call 12; ((with_reducible refine (hmd _).mono ?_); rintro e wz ⟨rfl, hgz⟩; replace HG := grown_trans HG hgz)) | (go_at_call 21; ((with_reducible refine (hl16 _ _ _ _ _ _ (X9.later HG).tx).mono ?_); rintro e wz ⟨rfl, hgz⟩; replace HG := grown_trans HG hgz))))
    refine hK.out _ _ (hcell HG) (fun hHeld => ?_)
    clear hK K
    try simp only [Act.put, List.setIfInBounds_toArray, List.set_cons_zero, List.set_cons_succ]
    refine held_yes 28 108 (v := ?_) rfl rfl (by kernel_rfl) (by kernel_rfl) (by kernel_rfl) (fun _ _ _ h => h) (by kernel_rfl) ?hy28 hHeld ?hr28
    case hy28 => (intro w hSw; (try dsimp only at hSw); go_simp; try (with_reducible rfl))
    case hr28 =>
    simp only [Act.put, List.setIfInBounds_toArray, List.set_cons_zero, List.set_cons_succ]
    refine held_yes 29 109 (v := ?_) rfl rfl (by kernel_rfl) (by kernel_rfl) (by kernel_rfl) (fun _ _ _ h => h) (by kernel_rfl) ?hy29 hHeld ?hr29
    case hy29 => (intro w hSw; (try dsimp only at hSw); go_simp; try (with_reducible rfl))
    case hr29 =>
    simp only [Act.put, List.setIfInBounds_toArray, List.set_cons_zero, List.set_cons_succ]
    refine held_yes 30 110 (v := ?_) rfl rfl (by kernel_rfl) (by kernel_rfl) (by kernel_rfl) (fun _ _ _ h => h) (by kernel_rfl) ?hy30 hHeld ?hr30
    case hy30 => (intro w hSw; (try dsimp only at hSw); go_simp; try (with_reducible rfl))
    case hr30 =>
    simp only [Act.put, List.setIfInBounds_toArray, List.set_cons_zero, List.set_cons_succ]
    refine held_yes 31 111 (v := ?_) rfl rfl (by kernel_rfl) (by kernel_rfl) (by kernel_rfl) (fun _ _ _ h => h) (by kernel_rfl) ?hy31 hHeld ?hr31
    case hy31 => (intro w hSw; (try dsimp only at hSw); go_simp; try (with_reducible rfl))
    case hr31 =>
    simp only [Act.put, List.setIfInBounds_toArray, List.set_cons_zero, List.set_cons_succ]
    refine held_yes 32 112 (v := ?_) rfl rfl (by kernel_rfl) (by kernel_rfl) (by kernel_rfl) (fun _ _ _ h => h) (by kernel_rfl) ?hy32 hHeld ?hr32
    case hy32 => (intro w hSw; (try dsimp only at hSw); go_simp; try (with_reducible rfl))
    case hr32 =>
    simp only [Act.put, List.setIfInBounds_toArray, List.set_cons_zero, List.set_cons_succ]
    refine held_yes 33 6 (v := ?_) rfl rfl (by kernel_rfl) (by kernel_rfl) (by kernel_rfl) (fun _ _ _ h => h) (by kernel_rfl) ?hy33 hHeld ?hr33
    case hy33 => (intro w hSw; (try dsimp only at hSw); go_simp; try (with_reducible rfl))
    case hr33 =>
    simp only [Act.put, List.setIfInBounds_toArray, List.set_cons_zero, List.set_cons_succ]
    refine wpAnyH_done (by kernel_rfl) ?_ _
    go_wp2
    go_ret
    exact ⟨ret_bool' (by first | (simp; done) | (simp; omega)), grown_trans hg0 (grown_trans hg1 (X9.later HG).since)⟩
  · have hcell : ∀ {wr : World}, (w9.alloc (.cells #[.int .u64 s, .bool u, .int .i64 m] 26)).grownBy wr none →
        (wr.cell? ⟨w.heap.size, 0, none⟩ = some (.int .u64 s) ∧ wr.cell? ⟨w.heap.size, 1, none⟩ = some (.bool u) ∧ wr.cell? ⟨w.heap.size, 2, none⟩ = some (.int .i64 m)) ∧ (wr.cell? ⟨w.heap.size + 1, 0, none⟩ = some (.int .u64 x) ∧ wr.cell? ⟨w.heap.size + 1, 1, none⟩ = some (.int .u64 y)) ∧
        (wr.cell? ⟨w9.heap.size, 0, none⟩ = some (.int .u64 s) ∧ wr.cell? ⟨w9.heap.size, 1, none⟩ = some (.bool u) ∧ wr.cell? ⟨w9.heap.size, 2, none⟩ = some (.int .i64 m)) := fun {wr} hg => by
      obtain ⟨k0, k1, k2, k3, k4⟩ := two_boxes (grown_trans hg1 (grown_trans X9.since hg))
      exact ⟨⟨k0, k1, k2⟩, ⟨k3, k4⟩, tag_cells (tag_first hg)⟩
    have HG : (w9.alloc (.cells #[.int .u64 s, .bool u, .int .i64 m] 26)).grownBy (w9.alloc (.cells #[.int .u64 s, .bool u, .int .i64 m] 26)).drew none := grown_drew (grown_refl _ _)
    refine wp_region_held_drew (S := fun wr => (wr.cell? ⟨w.heap.size, 0, none⟩ = some (.int .u64 s) ∧ wr.cell? ⟨w.heap.size, 1, none⟩ = some (.bool u) ∧ wr.cell? ⟨w.heap.size, 2, none⟩ = some (.int .i64 m)) ∧ (wr.cell? ⟨w.heap.size + 1, 0, none⟩ = some (.int .u64 x) ∧ wr.cell? ⟨w.heap.size + 1, 1, none⟩ = some (.int .u64 y)) ∧
        (wr.cell? ⟨w9.heap.size, 0, none⟩ = some (.int .u64 s) ∧ wr.cell? ⟨w9.heap.size, 1, none⟩ = some (.bool u) ∧ wr.cell? ⟨w9.heap.size, 2, none⟩ = some (.int .i64 m))) (by kernel_rfl) (hcell HG) (fun hHeld => ?_)
    refine held_yes 0 80 (v := ?_) rfl rfl (by kernel_rfl) (by kernel_rfl) (by kernel_rfl) (fun _ _ _ h => h) (by kernel_rfl) ?hy0 hHeld ?hr0
    case hy0 => (intro w hSw; (try dsimp only at hSw); go_simp; try (with_reducible rfl))
    case hr0 =>
    simp only [Act.put, List.setIfInBounds_toArray, List.set_cons_zero, List.set_cons_succ]
    refine held_yes 1 81 (v := ?_) rfl rfl (by kernel_rfl) (by kernel_rfl) (by kernel_rfl) (fun _ _ _ h => h) (by kernel_rfl) ?hy1 hHeld ?hr1
    case hy1 => (intro w hSw; (try dsimp only at hSw); go_simp; try (with_reducible rfl))
    case hr1 =>
    simp only [Act.put, List.setIfInBounds_toArray, List.set_cons_zero, List.set_cons_succ]
    refine held_yes 2 82 (v := ?_) rfl rfl (by kernel_rfl) (by kernel_rfl) (by kernel_rfl) (fun _ _ _ h => h) (by kernel_rfl) ?hy2 hHeld ?hr2
    case hy2 => (intro w hSw; (try dsimp only at hSw); go_simp; try (with_reducible rfl))
    case hr2 =>
    simp only [Act.put, List.setIfInBounds_toArray, List.set_cons_zero, List.set_cons_succ]
    refine held_yes 3 83 (v := ?_) rfl rfl (by kernel_rfl) (by kernel_rfl) (by kernel_rfl) (fun _ _ _ h => h) (by kernel_rfl) ?hy3 hHeld ?hr3
    case hy3 => (intro w hSw; (try dsimp only at hSw); go_simp; try (with_reducible rfl))
    case hr3 =>
    simp only [Act.put, List.setIfInBounds_toArray, List.set_cons_zero, List.set_cons_succ]
    refine held_yes 4 84 (v := ?_) rfl rfl (by kernel_rfl) (by kernel_rfl) (by kernel_rfl) (fun _ _ _ h => h) (by kernel_rfl) ?hy4 hHeld ?hr4
    case hy4 => (intro w hSw; (try dsimp only at hSw); go_simp; try (with_reducible rfl))
    case hr4 =>
    simp only [Act.put, List.setIfInBounds_toArray, List.set_cons_zero, List.set_cons_succ]
    refine held_yes 5 85 (v := ?_) rfl rfl (by kernel_rfl) (by kernel_rfl) (by kernel_rfl) (fun _ _ _ h => h) (by kernel_rfl) ?hy5 hHeld ?hr5
    case hy5 => (intro w hSw; (try dsimp only at hSw); go_simp; try (with_reducible rfl))
    case hr5 =>
    simp only [Act.put, List.setIfInBounds_toArray, List.set_cons_zero, List.set_cons_succ]
    refine held_yes 6 86 (v := ?_) rfl rfl (by kernel_rfl) (by kernel_rfl) (by kernel_rfl) (fun _ _ _ h => h) (by kernel_rfl) ?hy6 hHeld ?hr6
    case hy6 => (intro w hSw; (try dsimp only at hSw); go_simp; try (with_reducible rfl))
    case hr6 =>
    simp only [Act.put, List.setIfInBounds_toArray, List.set_cons_zero, List.set_cons_succ]
    refine held_yes 10 90 (v := ?_) rfl rfl (by kernel_rfl) (by kernel_rfl) (by kernel_rfl) (fun _ _ _ h => h) (by kernel_rfl) ?hy10 hHeld ?hr10
    case hy10 => (intro w hSw; (try dsimp only at hSw); go_simp; try (with_reducible rfl))
    case hr10 =>
    simp only [Act.put, List.setIfInBounds_toArray, List.set_cons_zero, List.set_cons_succ]
    refine wpAnyH_ready (rs := [7]) (by kernel_rfl) (by simp) (AllReadyH.cons rfl (fun K hK => ?_) AllReadyH.nil)
    clear hHeld
    go_simp
    ((first | (go_at_call 12; ((with_reducible refine (hmd _).mono ?_); rintro e wz ⟨rfl, hgz⟩; replace HG := grown_trans HG hgz)) | (go_at_call 21; ((with_reducible refine (hl16 _ _ _ _ _ _ (X9.later HG).tx).mono ?_); rintro e wz ⟨rfl, hgz⟩; replace HG := grown_trans HG hgz))))
    refine hK.out _ _ (hcell HG) (fun hHeld => ?_)
    clear hK K
    try simp only [Act.put, List.setIfInBounds_toArray, List.set_cons_zero, List.set_cons_succ]
    refine held_yes 8 88 (v := ?_) rfl rfl (by kernel_rfl) (by kernel_rfl) (by kernel_rfl) (fun _ _ _ h => h) (by kernel_rfl) ?hy8 hHeld ?hr8
    case hy8 => (intro w hSw; (try dsimp only at hSw); go_simp; try (with_reducible rfl))
    case hr8 =>
    simp only [Act.put, List.setIfInBounds_toArray, List.set_cons_zero, List.set_cons_succ]
    refine held_yes 9 89 (v := ?_) rfl rfl (by kernel_rfl) (by kernel_rfl) (by kernel_rfl) (fun _ _ _ h => h) (by kernel_rfl) ?hy9 hHeld ?hr9
    case hy9 => (intro w hSw; (try dsimp only at hSw); go_simp; try (with_reducible rfl))
    case hr9 =>
    simp only [Act.put, List.setIfInBounds_toArray, List.set_cons_zero, List.set_cons_succ]
    refine held_yes 11 91 (v := ?_) rfl rfl (by kernel_rfl) (by kernel_rfl) (by kernel_rfl) (fun _ _ _ h => h) (by kernel_rfl) ?hy11 hHeld ?hr11
    case hy11 => (intro w hSw; (try dsimp only at hSw); go_simp; try (with_reducible rfl))
    case hr11 =>
    simp only [Act.put, List.setIfInBounds_toArray, List.set_cons_zero, List.set_cons_succ]
    refine held_skip 12 92 rfl rfl (by kernel_rfl) (by kernel_rfl) (by kernel_rfl) (fun _ _ _ h => h) (by kernel_rfl) hHeld ?_
    simp only [Act.put, List.setIfInBounds_toArray, List.set_cons_zero, List.set_cons_succ]
    refine held_skip 13 93 rfl rfl (by kernel_rfl) (by kernel_rfl) (by kernel_rfl) (fun _ _ _ h => h) (by kernel_rfl) hHeld ?_
    simp only [Act.put, List.setIfInBounds_toArray, List.set_cons_zero, List.set_cons_succ]
    refine held_skip 14 94 rfl rfl (by kernel_rfl) (by kernel_rfl) (by kernel_rfl) (fun _ _ _ h => h) (by kernel_rfl) hHeld ?_
    simp only [Act.put, List.setIfInBounds_toArray, List.set_cons_zero, List.set_cons_succ]
    refine held_skip 15 95 rfl rfl (by kernel_rfl) (by kernel_rfl) (by kernel_rfl) (fun _ _ _ h => h) (by kernel_rfl) hHeld ?_
    simp only [Act.put, List.setIfInBounds_toArray, List.set_cons_zero, List.set_cons_succ]
    refine held_yes 16 96 (v := ?_) rfl rfl (by kernel_rfl) (by kernel_rfl) (by kernel_rfl) (fun _ _ _ h => h) (by kernel_rfl) ?hy16 hHeld ?hr16
    case hy16 => (intro w hSw; (try dsimp only at hSw); go_simp; try (with_reducible rfl))
    case hr16 =>
    simp only [Act.put, List.setIfInBounds_toArray, List.set_cons_zero, List.set_cons_succ]
    refine held_yes 17 97 (v := ?_) rfl rfl (by kernel_rfl) (by kernel_rfl) (by kernel_rfl) (fun _ _ _ h => h) (by kernel_rfl) ?hy17 hHeld ?hr17
    case hy17 => (intro w hSw; (try dsimp only at hSw); go_simp; try (with_reducible rfl))
    case hr17 =>
    simp only [Act.put, List.setIfInBounds_toArray, List.set_cons_zero, List.set_cons_succ]
    refine held_yes 18 98 (v := ?_) rfl rfl (by kernel_rfl) (by kernel_rfl) (by kernel_rfl) (fun _ _ _ h => h) (by kernel_rfl) ?hy18 hHeld ?hr18
    case hy18 => (intro w hSw; (try dsimp only at hSw); go_simp; try (with_reducible rfl))
    case hr18 =>
    simp only [Act.put, List.setIfInBounds_toArray, List.set_cons_zero, List.set_cons_succ]
    refine held_yes 19 99 (v := ?_) rfl rfl (by kernel_rfl) (by kernel_rfl) (by kernel_rfl) (fun _ _ _ h => h) (by kernel_rfl) ?hy19 hHeld ?hr19
    case hy19 => (intro w hSw; (try dsimp only at hSw); go_simp; try (with_reducible rfl))
    case hr19 =>
    simp only [Act.put, List.setIfInBounds_toArray, List.set_cons_zero, List.set_cons_succ]
    refine held_yes 20 100 (v := ?_) rfl rfl (by kernel_rfl) (by kernel_rfl) (by kernel_rfl) (fun _ _ _ h => h) (by kernel_rfl) ?hy20 hHeld ?hr20
    case hy20 => (intro w hSw; (try dsimp only at hSw); go_simp; try (with_reducible rfl))
    case hr20 =>
    simp only [Act.put, List.setIfInBounds_toArray, List.set_cons_zero, List.set_cons_succ]
    refine held_yes 21 101 (v := ?_) rfl rfl (by kernel_rfl) (by kernel_rfl) (by kernel_rfl) (fun _ _ _ h => h) (by kernel_rfl) ?hy21 hHeld ?hr21
    case hy21 => (intro w hSw; (try dsimp only at hSw); go_simp; try (with_reducible rfl))
    case hr21 =>
    simp only [Act.put, List.setIfInBounds_toArray, List.set_cons_zero, List.set_cons_succ]
    refine held_skip 22 102 rfl rfl (by kernel_rfl) (by kernel_rfl) (by kernel_rfl) (fun _ _ _ h => h) (by kernel_rfl) hHeld ?_
    simp only [Act.put, List.setIfInBounds_toArray, List.set_cons_zero, List.set_cons_succ]
    refine held_skip 23 103 rfl rfl (by kernel_rfl) (by kernel_rfl) (by kernel_rfl) (fun _ _ _ h => h) (by kernel_rfl) hHeld ?_
    simp only [Act.put, List.setIfInBounds_toArray, List.set_cons_zero, List.set_cons_succ]
    refine held_skip 24 104 rfl rfl (by kernel_rfl) (by kernel_rfl) (by kernel_rfl) (fun _ _ _ h => h) (by kernel_rfl) hHeld ?_
    simp only [Act.put, List.setIfInBounds_toArray, List.set_cons_zero, List.set_cons_succ]
    refine held_skip 25 105 rfl rfl (by kernel_rfl) (by kernel_rfl) (by kernel_rfl) (fun _ _ _ h => h) (by kernel_rfl) hHeld ?_
    simp only [Act.put, List.setIfInBounds_toArray, List.set_cons_zero, List.set_cons_succ]
    refine held_skip 26 106 rfl rfl (by kernel_rfl) (by kernel_rfl) (by kernel_rfl) (fun _ _ _ h => h) (by kernel_rfl) hHeld ?_
    simp only [Act.put, List.setIfInBounds_toArray, List.set_cons_zero, List.set_cons_succ]
    refine held_skip 27 107 rfl rfl (by kernel_rfl) (by kernel_rfl) (by kernel_rfl) (fun _ _ _ h => h) (by kernel_rfl) hHeld ?_
    simp only [Act.put, List.setIfInBounds_toArray, List.set_cons_zero, List.set_cons_succ]
    refine held_skip 28 108 rfl rfl (by kernel_rfl) (by kernel_rfl) (by kernel_rfl) (fun _ _ _ h => h) (by kernel_rfl) hHeld ?_
    simp only [Act.put, List.setIfInBounds_toArray, List.set_cons_zero, List.set_cons_succ]
    refine held_yes 29 109 (v := ?_) rfl rfl (by kernel_rfl) (by kernel_rfl) (by kernel_rfl) (fun _ _ _ h => h) (by kernel_rfl) ?hy29 hHeld ?hr29
    case hy29 => (intro w hSw; (try dsimp only at hSw); go_simp; try (with_reducible rfl))
    case hr29 =>
    simp only [Act.put, List.setIfInBounds_toArray, List.set_cons_zero, List.set_cons_succ]
    refine held_yes 30 110 (v := ?_) rfl rfl (by kernel_rfl) (by kernel_rfl) (by kernel_rfl) (fun _ _ _ h => h) (by kernel_rfl) ?hy30 hHeld ?hr30
    case hy30 => (intro w hSw; (try dsimp only at hSw); go_simp; try (with_reducible rfl))
    case hr30 =>
    simp only [Act.put, List.setIfInBounds_toArray, List.set_cons_zero, List.set_cons_succ]
    refine held_yes 31 111 (v := ?_) rfl rfl (by kernel_rfl) (by kernel_rfl) (by kernel_rfl) (fun _ _ _ h => h) (by kernel_rfl) ?hy31 hHeld ?hr31
    case hy31 => (intro w hSw; (try dsimp only at hSw); go_simp; try (with_reducible rfl))
    case hr31 =>
    simp only [Act.put, List.setIfInBounds_toArray, List.set_cons_zero, List.set_cons_succ]
    refine held_yes 32 112 (v := ?_) rfl rfl (by kernel_rfl) (by kernel_rfl) (by kernel_rfl) (fun _ _ _ h => h) (by kernel_rfl) ?hy32 hHeld ?hr32
    case hy32 => (intro w hSw; (try dsimp only at hSw); go_simp; try (with_reducible rfl))
    case hr32 =>
    simp only [Act.put, List.setIfInBounds_toArray, List.set_cons_zero, List.set_cons_succ]
    refine held_yes 33 6 (v := ?_) rfl rfl (by kernel_rfl) (by kernel_rfl) (by kernel_rfl) (fun _ _ _ h => h) (by kernel_rfl) ?hy33 hHeld ?hr33
    case hy33 => (intro w hSw; (try dsimp only at hSw); go_simp; try (with_reducible rfl))
    case hr33 =>
    simp only [Act.put, List.setIfInBounds_toArray, List.set_cons_zero, List.set_cons_succ]
    refine wpAnyH_done (by kernel_rfl) ?_ _
    go_wp2
    go_ret
    exact ⟨ret_bool' (by first | (simp; done) | (simp; omega)), grown_trans hg0 (grown_trans hg1 (X9.later HG).since)⟩
theorem walk (a : Int) (wa : (Lit.int .u64 a).wf = true) (s : Nat) (u : Bool) (o : Int) (hs : s < 18446744073709551616) (x y : Nat) (hx : x < 18446744073709551616) (hy : y < 18446744073709551616) (w : World) :
    Calls Try.prog 6 #[.int .u64 a, .agg #[.int .u64 s, .bool u, .int .i64 o], .agg #[.int .u64 x, .int .u64 y]] w fun e w' => e = .returned (.bool true) ∧ Below w.heap.size w w' := by
  have b0 := bounds_u64 wa
  obtain ⟨off, rfl⟩ := Int.eq_ofNat_of_zero_le b0.1
  have ho : off < 18446744073709551616 := by omega
  by_cases h : mayP s u o ∧ inP 4480 off s
  · have hm := h.1
    obtain ⟨m, rfl⟩ : ∃ m : Nat, o = m := Int.eq_ofNat_of_zero_le (by have := hm; unfold mayP at this; omega)
    by_cases e : x = off
    · subst e
      exact (core_off x ho s u m y hy hm h.2 w).mono fun e w' ⟨h1, h2⟩ => ⟨h1, grown_below h2⟩
    · exact (core_ne off ho s u m x hx y hy e hm h.2 w).mono fun e w' ⟨h1, h2⟩ => ⟨h1, grown_below h2⟩
  · exact (core_no off ho s u o x y h w).mono fun e w' ⟨h1, h2⟩ => ⟨h1, grown_below h2⟩

theorem laidOut : laidOutB Try.prog = true := by kernel_rfl
/-! ### The row's step: the guide's frame -/
theorem own : ownKnob Try.prog.godebug = none := by kernel_rfl
set_option maxRecDepth 100000 in
theorem lifted (os : Os) (started : os.Started) (H : Type) (enc : TypeId × Value → H) :
    ReturnsInHanded {} Try.checked os 6 .any (Rows.tagStandsSpec.pre6 enc Try.prog Try.f6 Rows.tagStandsRow.domain false) (Rows.tagStandsSpec.post enc Try.prog Try.f6 false true false false) := by
  refine returnsInHanded_of_change (C := Try.checked) own started (by kernel_rfl) Try.func6
    (ChangeSpec.witness6 (enc := enc) (C := Try.checked) false ⟨#[], #[.int .u64 0, .agg #[.int .u64 0, .bool false, .int .i64 0], .agg #[.int .u64 0, .int .u64 0]], []⟩ 8 (by kernel_rfl) (by kernel_rfl) (by kernel_rfl) (by kernel_rfl)) ?_
  intro W base args ds gs before hval0 hW hcnd _
  have hval : ∀ (j : Nat) t v, Try.f6.params[j]? = some t → args[j]? = some v → Value.okWide Try.prog W .any base t v := hval0
  have hW' := hW
  obtain ⟨p, q, hA0, hV, rfl, hfz, hnd⟩ := hW
  have hA : DataW.TrodAll enc Try.prog W 0 (fun _ => true) true Try.f6.params.toList args.toList ds p := hA0
  rw [Try.params6] at hA hval
  obtain ⟨v0, vs0, d0, ds0, p0, q0, hargs, rfl, rfl, h0, r0⟩ := trodAll_cons hA
  obtain ⟨v1, vs1, d1, ds1, p1, q1, rfl, rfl, rfl, h1, r1⟩ := trodAll_cons r0
  obtain ⟨v2, vs2, d2, ds2, p2, q2, rfl, rfl, rfl, h2, r2⟩ := trodAll_cons r1
  obtain ⟨rfl, rfl, rfl⟩ := trodAll_nil r2
  obtain rfl : args = #[v0, v1, v2] := by cases args; simp_all
  obtain ⟨rfl, rfl⟩ := trodVars_none hV
  obtain ⟨a0, rfl, rfl, rfl, w0⟩ := open_int Try.underlying22 (hval 0 22 v0 rfl rfl) h0
  have lt1 : ∀ x ∈ p1, x.block < W.heap.size := by obtain ⟨m, hm⟩ := h1; exact DataW.trod_lt m _ _ _ hm
  obtain ⟨s1, u1, o1, rfl, hs1⟩ := open_tag (hval 1 24 v1 rfl rfl) h1
  have lt2 : ∀ x ∈ p2, x.block < W.heap.size := by obtain ⟨m, hm⟩ := h2; exact DataW.trod_lt m _ _ _ hm
  obtain ⟨x2, y2, rfl, hx2, hy2⟩ := open_put (hval 2 52 v2 rfl rfl) h2
  clear hA0 hval0
  refine (walk a0 w0 s1 u1 o1 hs1 x2 y2 hx2 hy2 W).mono fun e W' ⟨he, bel⟩ => ?_
  subst he
  exact ⟨_, rfl, _, _, _, [], _, [], hW', trodAll_mk1 (shut_bool Try.underlying4 _), (trodAll_cons_mk (shut_int Try.underlying22 w0) (trodAll_cons_mk (Below.trod laidOut (by kernel_rfl) (of_decide_eq_true (by kernel_rfl)) h1 bel lt1) (trodAll_cons_mk (Below.trod laidOut (by kernel_rfl) (of_decide_eq_true (by kernel_rfl)) h2 bel lt2) trodAll_mk0))), rfl, bel.frame _, fun h => by cases h⟩

theorem over : Rows.tagStandsRow.holds Try.pinned (OpenSpec.ofChange Rows.tagStandsSpec) :=
  OpenClaim.holds_of_wide 6 Try.f6 rfl rfl rfl rfl rfl rfl rfl ⟨rfl, rfl, rfl, rfl, rfl⟩ rfl rfl rfl rfl rfl (by kernel_rfl) Try.func6 (by kernel_rfl)
    (of_decide_eq_true (by kernel_rfl)) (by unfold Func.isWrapper; first | (rw [if_pos (by decide +kernel)]; kernel_rfl) | (rw [if_neg (by decide +kernel)]; exact ⟨rfl, rfl⟩))
    (fun os started H enc _ => lifted os started H enc)

theorem proved : Rows.TagStandsSaid :=
  over
#print axioms proved


end Go.Proofs.Ytgebkdngglljeaa.tagStands
