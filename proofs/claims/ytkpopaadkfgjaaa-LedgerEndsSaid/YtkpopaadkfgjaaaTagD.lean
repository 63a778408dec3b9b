/-
  Package tag: the contracts of the plain answers in and Read.
  Conditions: the plain Tx stands in memory; the numbers are of 64 bits.
-/
import Derived.Test.YtkpopaadkfgjaaaTagC
import Derived.Test.YtkpopaadkfgjaaaLTx
import Derived.StillTailTactics
import Derived.BigQuiet
namespace Go.Proofs.Ytkpopaadkfgjaaa
open Go.RowKit
set_option linter.unusedVariables false
set_option linter.unusedSimpArgs false

section
variable {w : World} {base : Nat} {wv pv : Value} {ws : List Nat} {l : List (Nat × Nat)}
set_option maxRecDepth 100000 in
theorem rtin_any (h : RTx w base wv pv ws l) (hm : ws.length ≤ 131072) (hl : l.length ≤ 1000000) (hlt : txSee ws l 16 < 18446744073709551616) (off s : Nat) :
    Calls Try.prog 70 #[.agg #[wv, pv], .int .u64 off, .int .u64 s] w fun e w' => e = .returned (.bool (decide (inP (txSee ws l 16) off s))) ∧ w.grownBy w' none := by
  have hg0 : w.grownBy (w.alloc (.cells #[wv, pv] 27)) none := World.grownBy_alloc _ _ _
  obtain ⟨wa, wc, wg, hwv, _, _⟩ := OwnW.addr h.words
  subst hwv
  obtain ⟨pa, pc, pg, hpv, _, _⟩ := h.puts.addr
  subst hpv
  have hc : Calls Try.prog 30 #[.agg #[.slice wa ws.length wc, .slice pa l.length pc], .int .u64 16] (w.alloc (.cells #[.slice wa ws.length wc, .slice pa l.length pc] 27)) _ := rtxload_any (h.later hg0) hm hl 16 (by decide)
  obtain ⟨z, hz⟩ : ∃ z, txSee ws l 16 = z := ⟨_, rfl⟩
  rw [hz] at hc hlt ⊢
  clear hz h hm hl
  by_cases h0 : (off : Int) % 16 = 0
  · by_cases h1 : 3776 ≤ (off : Int)
    · by_cases h2 : (off : Int) < (z : Int)
      · have e : decide (inP z off s) = decide (s ≤ z - off) := by rw [decide_eq_decide]; unfold inP; omega
        have e2 : IntKind.u64.wrap ((z : Int) - (off : Int)) = (z - off : Nat) := by rw [IntKind.wrap_u64]; omega
        rw [e]
        go_enter Try.func70, Try.ntmps70
        go_wp2_with (go_at_call 30; (with_reducible refine hc.mono ?_); rintro e w1 ⟨rfl, hg1⟩)
        go_ret
        exact ⟨rfl, grown_trans hg0 hg1⟩
      · rw [decide_eq_false (show ¬ inP z off s by unfold inP; omega)]
        go_enter Try.func70, Try.ntmps70
        go_wp2_with (go_at_call 30; (with_reducible refine hc.mono ?_); rintro e w1 ⟨rfl, hg1⟩)
        go_ret
        exact ⟨rfl, grown_trans hg0 hg1⟩
    · rw [decide_eq_false (show ¬ inP z off s by unfold inP; omega)]
      go_enter Try.func70, Try.ntmps70
      go_wp2_with (go_at_call 30; (with_reducible refine hc.mono ?_); rintro e w1 ⟨rfl, hg1⟩)
      go_ret
      exact ⟨rfl, grown_trans hg0 hg1⟩
  · rw [decide_eq_false (show ¬ inP z off s by unfold inP; omega)]
    go_enter Try.func70, Try.ntmps70
    go_wp2_with (go_at_call 30; (with_reducible refine hc.mono ?_); rintro e w1 ⟨rfl, hg1⟩)
    go_ret
    exact ⟨rfl, grown_trans hg0 hg1⟩
/-- two blocks, one behind the other, and what is made behind them -/
theorem two_first {w w' : World} {a b c x y : Value} {t t2 : TypeId} (hg : ((w.alloc (.cells #[x, y] t)).alloc (.cells #[a, b, c] t2)).grownBy w' none) :
    w'.heap[w.heap.size]? = some (.cells #[x, y] t (0, 0)) ∧ w'.heap[w.heap.size + 1]? = some (.cells #[a, b, c] t2 (0, 0)) := by
  have h1 : (w.alloc (.cells #[x, y] t)).heap[w.heap.size]? = some (.cells #[x, y] t (0, 0)) := heap_alloc_new' _ _
  have h2 := ((World.grownBy_alloc (w.alloc (.cells #[x, y] t)) (.cells #[a, b, c] t2) none).block _ (lt_of_block h1) (by simp)).trans h1
  have h3 := heap_alloc_new' (w.alloc (.cells #[x, y] t)) (.cells #[a, b, c] t2)
  rw [World.size_alloc] at h3
  exact ⟨(hg.block _ (lt_of_block h2) (by simp)).trans h2, (hg.block _ (lt_of_block h3) (by simp)).trans h3⟩
theorem two_cells {w : World} {b : Nat} {x y : Value} {t : TypeId} (h : w.heap[b]? = some (.cells #[x, y] t (0, 0))) : w.cell? ⟨b, 0, none⟩ = some x ∧ w.cell? ⟨b, 1, none⟩ = some y := by
  exact ⟨by simp [World.cell?, h], by simp [World.cell?, h]⟩
set_option maxRecDepth 100000 in
set_option maxHeartbeats 4000000 in
theorem rtread_any (h : RTx w base wv pv ws l) (hm : ws.length ≤ 131072) (hl : l.length ≤ 1000000) (hlt : ∀ k, txSee ws l k < 18446744073709551616) (off : Nat) (ho : off < 18446744073709551616) :
    Calls Try.prog 55 #[.agg #[wv, pv], .int .u64 off] w fun e w' => e = .returned (.tuple #[.agg #[.int .u64 (rdS (txSee ws l) off : Nat), .bool (rdU (txSee ws l) off), .int .i64 (rdO (txSee ws l) off : Nat)], .int .i64 (rdE (txSee ws l) off : Nat)]) ∧ w.grownBy w' none := by
  obtain ⟨wa, wc, wg, hwv, _, _⟩ := OwnW.addr h.words
  subst hwv
  obtain ⟨pa, pc, pg, hpv, _, _⟩ := h.puts.addr
  subst hpv
  have hin0 : ∀ (w1 : World) (hg : w.grownBy w1 none), Calls Try.prog 70 #[.agg #[.slice wa ws.length wc, .slice pa l.length pc], .int .u64 off, .int .u64 0] w1 _ := fun w1 hg => rtin_any (h.later hg) hm hl (hlt 16) off 0
  have hin := fun (w1 : World) (hg : w.grownBy w1 none) (s : Nat) => rtin_any (h.later hg) hm hl (hlt 16) off s
  have hload := fun (w1 : World) (hg : w.grownBy w1 none) => rtxload_any (h.later hg) hm hl off ho
  have hload2 := fun (w1 : World) (hg : w.grownBy w1 none) (b : Nat) (hb : b < 18446744073709551616) => rtxload_any (h.later hg) hm hl b hb
  have hun := fun w1 => rtunpack_any (txSee ws l off) (hlt off) w1
  have hlt16 := hlt 16
  obtain ⟨f, hf⟩ : ∃ f, txSee ws l = f := ⟨_, rfl⟩
  rw [hf] at hin0 hin hload hload2 hun hlt16 ⊢
  obtain ⟨x, hx⟩ : ∃ x, f off = x := ⟨_, rfl⟩
  rw [hx] at hload hun
  have hg0 : w.grownBy ((w.alloc (.cells #[.slice wa ws.length wc, .slice pa l.length pc] 27)).alloc (.cells #[.int .u64 0, .bool false, .int .i64 0] 78)) none := grown_trans (World.grownBy_alloc _ _ _) (World.grownBy_alloc _ _ _)
  obtain ⟨wn, hwn⟩ : ∃ n, ws.length = n := ⟨_, rfl⟩
  obtain ⟨pn, hpn⟩ : ∃ n, l.length = n := ⟨_, rfl⟩
  simp only [hwn, hpn] at hin0 hin hload hload2 hg0 ⊢
  clear h hm hl hlt hf hwn hpn
  by_cases h0 : inP (f 16) off 0
  · rw [decide_eq_true h0] at hin0
    by_cases hmx : mayW x
    · obtain ⟨q1, q2, q3⟩ := t_yes hmx
      rw [q1, q2, q3, decide_eq_true hmx] at hun
      clear q1 q2 q3
      have hin1 := fun w1 hg => hin w1 hg (usz x)
      by_cases hi : inP (f 16) off (usz x)
      · rw [decide_eq_true hi] at hin1
        have hb48 := mayW_size hmx
        have hadd : off + usz x < 18446744073709551616 := by unfold inP at hi; omega
        obtain ⟨b, hb⟩ : ∃ b, off + usz x - 8 = b := ⟨_, rfl⟩
        have hld2 := fun w1 hg => hload2 w1 hg b (by omega)
        obtain ⟨y, hy⟩ : ∃ y, f b = y := ⟨_, rfl⟩
        rw [hy] at hld2
        have hrd : rdP f off ↔ y = x := by
          unfold rdP
          rw [hx, hb, hy]
          exact ⟨fun h => h.2.2, fun h => ⟨hmx, hi, h⟩⟩
        have hyes := fun h => rd_yes (hrd.2 h)
        have hno := fun (h : ¬ y = x) => rd_no (f := f) (off := off) (fun h2 => h (hrd.1 h2))
        rw [hx] at hyes
        obtain ⟨s, hs⟩ : ∃ s, usz x = s := ⟨_, rfl⟩
        obtain ⟨u, hu⟩ : ∃ u, uus x = u := ⟨_, rfl⟩
        obtain ⟨o, hoo⟩ : ∃ o, uow x = o := ⟨_, rfl⟩
        rw [hs, hu, hoo] at hun hyes
        rw [hs] at hin1 hb hb48 hadd
        have e1 : IntKind.u64.wrap (IntKind.u64.wrap ((off : Int) + (s : Int)) - 8) = (b : Nat) := by rw [IntKind.wrap_u64, IntKind.wrap_u64]; omega
        have e2 : IntKind.u64.wrap ((off : Int) + (s : Int) - 8) = (b : Nat) := by rw [IntKind.wrap_u64]; omega
        clear hs hu hoo hrd hi hin hload2 hb hx hy hmx h0
        by_cases hyx : y = x
        · have hr := hyes hyx
          rw [hr.1, hr.2.1, hr.2.2.1, hr.2.2.2]
          subst hyx
          clear hr hyes hno
          go_enter Try.func55, Try.ntmps55
          go_wp2_with (first | (go_at_call 70; ((with_reducible refine (hin0 _ hg0).mono ?_); rintro e w1 ⟨rfl, hg1⟩; have HB1 := Lib.hid (two_first hg1); obtain ⟨m0, m1⟩ := two_cells HB1.out.1)) | (go_at_call 30; ((with_reducible refine (hload _ (grown_trans hg0 hg1)).mono ?_); rintro e w2 ⟨rfl, hg2⟩)) | (go_at_call 74; ((with_reducible refine (hun _).mono ?_); rintro e w3 ⟨rfl, hg3⟩)))
          have hga : w3.grownBy (w3.alloc (.cells #[.int .u64 (s : Nat), .bool u, .int .i64 (o : Nat)] 78)) none := World.grownBy_alloc _ _ _
          have G3 := grown_trans hg0 (grown_trans hg1 (grown_trans hg2 (grown_trans hg3 hga)))
          have hblk : ∀ {wr : World}, (w3.alloc (.cells #[.int .u64 (s : Nat), .bool u, .int .i64 (o : Nat)] 78)).grownBy wr none → wr.heap[w.heap.size]? = some (.cells #[.slice wa wn wc, .slice pa pn pc] 27 (0, 0)) ∧ wr.heap[w.heap.size + 1]? = some (.cells #[.int .u64 0, .bool false, .int .i64 0] 78 (0, 0)) ∧ wr.heap[w3.heap.size]? = some (.cells #[.int .u64 (s : Nat), .bool u, .int .i64 (o : Nat)] 78 (0, 0)) := fun {wr} hg => by
            obtain ⟨z1, z2⟩ := two_first (grown_trans hg1 (grown_trans hg2 (grown_trans hg3 (grown_trans hga hg))))
            exact ⟨z1, z2, tag_first hg⟩
          have hcell : ∀ {wr : World}, (w3.alloc (.cells #[.int .u64 (s : Nat), .bool u, .int .i64 (o : Nat)] 78)).grownBy wr none → wr.cell? ⟨w.heap.size, 0, none⟩ = some (.slice wa wn wc) ∧ wr.cell? ⟨w.heap.size, 1, none⟩ = some (.slice pa pn pc) ∧ wr.cell? ⟨w3.heap.size, 0, none⟩ = some (.int .u64 (s : Nat)) := fun {wr} hg => by
            obtain ⟨H0, H1, H2⟩ := hblk hg
            exact ⟨(two_cells H0).1, (two_cells H0).2, (tag_cells H2).1⟩
          have HG : (w3.alloc (.cells #[.int .u64 (s : Nat), .bool u, .int .i64 (o : Nat)] 78)).grownBy (w3.alloc (.cells #[.int .u64 (s : Nat), .bool u, .int .i64 (o : Nat)] 78)).drew none := grown_drew (grown_refl _ _)
          obtain ⟨m0, m1, m2⟩ := hcell HG
          go_region_held3 (fun w' => w'.cell? ⟨w.heap.size, 0, none⟩ = some (.slice wa wn wc) ∧ w'.cell? ⟨w.heap.size, 1, none⟩ = some (.slice pa pn pc) ∧ w'.cell? ⟨w3.heap.size, 0, none⟩ = some (.int .u64 (s : Nat))) (go_keep) (first | (go_at_call 70; ((with_reducible refine (hin1 _ (grown_trans G3 HG)).mono ?_); rintro e w9 ⟨rfl, hg9⟩; replace HG := grown_trans HG hg9; obtain ⟨m0, m1, m2⟩ := hcell HG)) | (go_at_call 30; ((with_reducible refine (hld2 _ (grown_trans G3 HG)).mono ?_); rintro e w9 ⟨rfl, hg9⟩; replace HG := grown_trans HG hg9; obtain ⟨m0, m1, m2⟩ := hcell HG)) | (go_at_call 30; ((with_reducible refine (hload _ (grown_trans G3 HG)).mono ?_); rintro e w9 ⟨rfl, hg9⟩; replace HG := grown_trans HG hg9; obtain ⟨m0, m1, m2⟩ := hcell HG)))
          obtain ⟨H0, H1, H2⟩ := hblk HG
          obtain ⟨d0, d1, d2⟩ := tag_cells H1
          obtain ⟨f0, f1, f2⟩ := tag_frozen H1
          obtain ⟨g0, g1, g2⟩ := tag_cells H2
          have HB := Lib.hid H1
          clear H0 H1 H2 hblk hcell m0 m1 m2
          go_wp2
          have hb := tag_put HB.out (x' := .int .u64 (s : Nat)) (y' := .bool u) (z' := .int .i64 (o : Nat))
          obtain ⟨k0, k1, k2⟩ := tag_cells hb
          refine bodyPost_ret (v := .tuple #[.agg #[.int .u64 (s : Nat), .bool u, .int .i64 (o : Nat)], .int .i64 0]) (by simp [results, Try.results55, go_sem, k0, k1, k2]) rfl ?_
          exact ⟨rfl, tag_grown (grown_trans G3 HG) (by omega)⟩
        · have hr := hno hyx
          rw [hr.1, hr.2.1, hr.2.2.1, hr.2.2.2]
          have hne : ((y : Int) != (x : Int)) = true := by rw [bne_iff_ne]; omega
          clear hr hyes hno hyx
          go_enter Try.func55, Try.ntmps55
          go_wp2_with (first | (go_at_call 70; ((with_reducible refine (hin0 _ hg0).mono ?_); rintro e w1 ⟨rfl, hg1⟩; have HB1 := Lib.hid (two_first hg1); obtain ⟨m0, m1⟩ := two_cells HB1.out.1)) | (go_at_call 30; ((with_reducible refine (hload _ (grown_trans hg0 hg1)).mono ?_); rintro e w2 ⟨rfl, hg2⟩)) | (go_at_call 74; ((with_reducible refine (hun _).mono ?_); rintro e w3 ⟨rfl, hg3⟩)))
          have hga : w3.grownBy (w3.alloc (.cells #[.int .u64 (s : Nat), .bool u, .int .i64 (o : Nat)] 78)) none := World.grownBy_alloc _ _ _
          have G3 := grown_trans hg0 (grown_trans hg1 (grown_trans hg2 (grown_trans hg3 hga)))
          have hblk : ∀ {wr : World}, (w3.alloc (.cells #[.int .u64 (s : Nat), .bool u, .int .i64 (o : Nat)] 78)).grownBy wr none → wr.heap[w.heap.size]? = some (.cells #[.slice wa wn wc, .slice pa pn pc] 27 (0, 0)) ∧ wr.heap[w.heap.size + 1]? = some (.cells #[.int .u64 0, .bool false, .int .i64 0] 78 (0, 0)) ∧ wr.heap[w3.heap.size]? = some (.cells #[.int .u64 (s : Nat), .bool u, .int .i64 (o : Nat)] 78 (0, 0)) := fun {wr} hg => by
            obtain ⟨z1, z2⟩ := two_first (grown_trans hg1 (grown_trans hg2 (grown_trans hg3 (grown_trans hga hg))))
            exact ⟨z1, z2, tag_first hg⟩
          have hcell : ∀ {wr : World}, (w3.alloc (.cells #[.int .u64 (s : Nat), .bool u, .int .i64 (o : Nat)] 78)).grownBy wr none → wr.cell? ⟨w.heap.size, 0, none⟩ = some (.slice wa wn wc) ∧ wr.cell? ⟨w.heap.size, 1, none⟩ = some (.slice pa pn pc) ∧ wr.cell? ⟨w3.heap.size, 0, none⟩ = some (.int .u64 (s : Nat)) := fun {wr} hg => by
            obtain ⟨H0, H1, H2⟩ := hblk hg
            exact ⟨(two_cells H0).1, (two_cells H0).2, (tag_cells H2).1⟩
          have HG : (w3.alloc (.cells #[.int .u64 (s : Nat), .bool u, .int .i64 (o : Nat)] 78)).grownBy (w3.alloc (.cells #[.int .u64 (s : Nat), .bool u, .int .i64 (o : Nat)] 78)).drew none := grown_drew (grown_refl _ _)
          obtain ⟨m0, m1, m2⟩ := hcell HG
          go_region_held3 (fun w' => w'.cell? ⟨w.heap.size, 0, none⟩ = some (.slice wa wn wc) ∧ w'.cell? ⟨w.heap.size, 1, none⟩ = some (.slice pa pn pc) ∧ w'.cell? ⟨w3.heap.size, 0, none⟩ = some (.int .u64 (s : Nat))) (go_keep) (first | (go_at_call 70; ((with_reducible refine (hin1 _ (grown_trans G3 HG)).mono ?_); rintro e w9 ⟨rfl, hg9⟩; replace HG := grown_trans HG hg9; obtain ⟨m0, m1, m2⟩ := hcell HG)) | (go_at_call 30; ((with_reducible refine (hld2 _ (grown_trans G3 HG)).mono ?_); rintro e w9 ⟨rfl, hg9⟩; replace HG := grown_trans HG hg9; obtain ⟨m0, m1, m2⟩ := hcell HG)) | (go_at_call 30; ((with_reducible refine (hload _ (grown_trans G3 HG)).mono ?_); rintro e w9 ⟨rfl, hg9⟩; replace HG := grown_trans HG hg9; obtain ⟨m0, m1, m2⟩ := hcell HG)))
          obtain ⟨H0, H1, H2⟩ := hblk HG
          obtain ⟨d0, d1, d2⟩ := tag_cells H1
          obtain ⟨f0, f1, f2⟩ := tag_frozen H1
          obtain ⟨g0, g1, g2⟩ := tag_cells H2
          have HB := Lib.hid H1
          clear H0 H1 H2 hblk hcell m0 m1 m2
          go_wp2
          have hb := tag_put HB.out (x' := .int .u64 0) (y' := .bool false) (z' := .int .i64 0)
          obtain ⟨k0, k1, k2⟩ := tag_cells hb
          refine bodyPost_ret (v := .tuple #[.agg #[.int .u64 0, .bool false, .int .i64 0], .int .i64 12]) (by simp [results, Try.results55, go_sem, k0, k1, k2]) rfl ?_
          exact ⟨rfl, tag_grown (grown_trans G3 HG) (by omega)⟩
      · rw [decide_eq_false hi] at hin1
        have hr := rd_no (f := f) (off := off) (fun hr => hi (by have := hr.2.1; rw [hx] at this; exact this))
        rw [hr.1, hr.2.1, hr.2.2.1, hr.2.2.2]
        obtain ⟨s, hs⟩ : ∃ s, usz x = s := ⟨_, rfl⟩
        obtain ⟨u, hu⟩ : ∃ u, uus x = u := ⟨_, rfl⟩
        obtain ⟨o, hoo⟩ : ∃ o, uow x = o := ⟨_, rfl⟩
        rw [hs, hu, hoo] at hun
        rw [hs] at hin1
        clear hs hu hoo hr hi hin hload2 hx hmx h0
        go_enter Try.func55, Try.ntmps55
        go_wp2_with (first | (go_at_call 70; ((with_reducible refine (hin0 _ hg0).mono ?_); rintro e w1 ⟨rfl, hg1⟩; have HB1 := Lib.hid (two_first hg1); obtain ⟨m0, m1⟩ := two_cells HB1.out.1)) | (go_at_call 30; ((with_reducible refine (hload _ (grown_trans hg0 hg1)).mono ?_); rintro e w2 ⟨rfl, hg2⟩)) | (go_at_call 74; ((with_reducible refine (hun _).mono ?_); rintro e w3 ⟨rfl, hg3⟩)))
        have hga : w3.grownBy (w3.alloc (.cells #[.int .u64 (s : Nat), .bool u, .int .i64 (o : Nat)] 78)) none := World.grownBy_alloc _ _ _
        have G3 := grown_trans hg0 (grown_trans hg1 (grown_trans hg2 (grown_trans hg3 hga)))
        have hblk : ∀ {wr : World}, (w3.alloc (.cells #[.int .u64 (s : Nat), .bool u, .int .i64 (o : Nat)] 78)).grownBy wr none → wr.heap[w.heap.size]? = some (.cells #[.slice wa wn wc, .slice pa pn pc] 27 (0, 0)) ∧ wr.heap[w.heap.size + 1]? = some (.cells #[.int .u64 0, .bool false, .int .i64 0] 78 (0, 0)) ∧ wr.heap[w3.heap.size]? = some (.cells #[.int .u64 (s : Nat), .bool u, .int .i64 (o : Nat)] 78 (0, 0)) := fun {wr} hg => by
          obtain ⟨z1, z2⟩ := two_first (grown_trans hg1 (grown_trans hg2 (grown_trans hg3 (grown_trans hga hg))))
          exact ⟨z1, z2, tag_first hg⟩
        have hcell : ∀ {wr : World}, (w3.alloc (.cells #[.int .u64 (s : Nat), .bool u, .int .i64 (o : Nat)] 78)).grownBy wr none → wr.cell? ⟨w.heap.size, 0, none⟩ = some (.slice wa wn wc) ∧ wr.cell? ⟨w.heap.size, 1, none⟩ = some (.slice pa pn pc) ∧ wr.cell? ⟨w3.heap.size, 0, none⟩ = some (.int .u64 (s : Nat)) := fun {wr} hg => by
          obtain ⟨H0, H1, H2⟩ := hblk hg
          exact ⟨(two_cells H0).1, (two_cells H0).2, (tag_cells H2).1⟩
        have HG : (w3.alloc (.cells #[.int .u64 (s : Nat), .bool u, .int .i64 (o : Nat)] 78)).grownBy (w3.alloc (.cells #[.int .u64 (s : Nat), .bool u, .int .i64 (o : Nat)] 78)).drew none := grown_drew (grown_refl _ _)
        obtain ⟨m0, m1, m2⟩ := hcell HG
        refine wp_region_held_drew (S := fun w' => w'.cell? ⟨w.heap.size, 0, none⟩ = some (.slice wa wn wc) ∧ w'.cell? ⟨w.heap.size, 1, none⟩ = some (.slice pa pn pc) ∧ w'.cell? ⟨w3.heap.size, 0, none⟩ = some (.int .u64 (s : Nat))) (by kernel_rfl) (hcell HG) (fun hHeld => ?_)
        refine held_yes 0 20 (v := ?_) rfl rfl (by kernel_rfl) (by kernel_rfl) (by kernel_rfl) (fun _ _ _ h => h) (by kernel_rfl) ?hy0 hHeld ?hr0
        case hy0 => (intro w hSw; (try dsimp only at hSw); go_simp; try (with_reducible rfl))
        case hr0 =>
        simp only [Act.put, List.setIfInBounds_toArray, List.set_cons_zero, List.set_cons_succ]
        refine held_yes 1 21 (v := ?_) rfl rfl (by kernel_rfl) (by kernel_rfl) (by kernel_rfl) (fun _ _ _ h => h) (by kernel_rfl) ?hy1 hHeld ?hr1
        case hy1 => (intro w hSw; (try dsimp only at hSw); go_simp; try (with_reducible rfl))
        case hr1 =>
        simp only [Act.put, List.setIfInBounds_toArray, List.set_cons_zero, List.set_cons_succ]
        refine held_yes 2 22 (v := ?_) rfl rfl (by kernel_rfl) (by kernel_rfl) (by kernel_rfl) (fun _ _ _ h => h) (by kernel_rfl) ?hy2 hHeld ?hr2
        case hy2 => (intro w hSw; (try dsimp only at hSw); go_simp; try (with_reducible rfl))
        case hr2 =>
        simp only [Act.put, List.setIfInBounds_toArray, List.set_cons_zero, List.set_cons_succ]
        refine held_yes 3 23 (v := ?_) rfl rfl (by kernel_rfl) (by kernel_rfl) (by kernel_rfl) (fun _ _ _ h => h) (by kernel_rfl) ?hy3 hHeld ?hr3
        case hy3 => (intro w hSw; (try dsimp only at hSw); go_simp; try (with_reducible rfl))
        case hr3 =>
        simp only [Act.put, List.setIfInBounds_toArray, List.set_cons_zero, List.set_cons_succ]
        refine held_yes 4 24 (v := ?_) rfl rfl (by kernel_rfl) (by kernel_rfl) (by kernel_rfl) (fun _ _ _ h => h) (by kernel_rfl) ?hy4 hHeld ?hr4
        case hy4 => (intro w hSw; (try dsimp only at hSw); go_simp; try (with_reducible rfl))
        case hr4 =>
        simp only [Act.put, List.setIfInBounds_toArray, List.set_cons_zero, List.set_cons_succ]
        refine held_yes 5 25 (v := ?_) rfl rfl (by kernel_rfl) (by kernel_rfl) (by kernel_rfl) (fun _ _ _ h => h) (by kernel_rfl) ?hy5 hHeld ?hr5
        case hy5 => (intro w hSw; (try dsimp only at hSw); go_simp; try (with_reducible rfl))
        case hr5 =>
        simp only [Act.put, List.setIfInBounds_toArray, List.set_cons_zero, List.set_cons_succ]
        refine held_yes 6 26 (v := ?_) rfl rfl (by kernel_rfl) (by kernel_rfl) (by kernel_rfl) (fun _ _ _ h => h) (by kernel_rfl) ?hy6 hHeld ?hr6
        case hy6 => (intro w hSw; (try dsimp only at hSw); go_simp; try (with_reducible rfl))
        case hr6 =>
        simp only [Act.put, List.setIfInBounds_toArray, List.set_cons_zero, List.set_cons_succ]
        refine wpAnyH_ready (rs := [7]) (by kernel_rfl) (by simp) (AllReadyH.cons rfl (fun K hK => ?_) AllReadyH.nil)
        clear hHeld
        go_simp
        (go_at_call 70; ((with_reducible refine (hin1 _ (grown_trans G3 HG)).mono ?_); rintro e w9 ⟨rfl, hg9⟩; replace HG := grown_trans HG hg9))
        refine hK.out _ _ (hcell HG) (fun hHeld => ?_)
        clear hK K
        try simp only [Act.put, List.setIfInBounds_toArray, List.set_cons_zero, List.set_cons_succ]
        refine held_yes 8 28 (v := ?_) rfl rfl (by kernel_rfl) (by kernel_rfl) (by kernel_rfl) (fun _ _ _ h => h) (by kernel_rfl) ?hy8 hHeld ?hr8
        case hy8 => (intro w hSw; (try dsimp only at hSw); go_simp; try (with_reducible rfl))
        case hr8 =>
        simp only [Act.put, List.setIfInBounds_toArray, List.set_cons_zero, List.set_cons_succ]
        refine held_yes 9 29 (v := ?_) rfl rfl (by kernel_rfl) (by kernel_rfl) (by kernel_rfl) (fun _ _ _ h => h) (by kernel_rfl) ?hy9 hHeld ?hr9
        case hy9 => (intro w hSw; (try dsimp only at hSw); go_simp; try (with_reducible rfl))
        case hr9 =>
        simp only [Act.put, List.setIfInBounds_toArray, List.set_cons_zero, List.set_cons_succ]
        refine held_yes 10 30 (v := ?_) rfl rfl (by kernel_rfl) (by kernel_rfl) (by kernel_rfl) (fun _ _ _ h => h) (by kernel_rfl) ?hy10 hHeld ?hr10
        case hy10 => (intro w hSw; (try dsimp only at hSw); go_simp; try (with_reducible rfl))
        case hr10 =>
        simp only [Act.put, List.setIfInBounds_toArray, List.set_cons_zero, List.set_cons_succ]
        refine held_skip 11 31 rfl rfl (by kernel_rfl) (by kernel_rfl) (by kernel_rfl) (fun _ _ _ h => h) (by kernel_rfl) hHeld ?_
        simp only [Act.put, List.setIfInBounds_toArray, List.set_cons_zero, List.set_cons_succ]
        refine held_skip 12 32 rfl rfl (by kernel_rfl) (by kernel_rfl) (by kernel_rfl) (fun _ _ _ h => h) (by kernel_rfl) hHeld ?_
        simp only [Act.put, List.setIfInBounds_toArray, List.set_cons_zero, List.set_cons_succ]
        refine held_skip 13 33 rfl rfl (by kernel_rfl) (by kernel_rfl) (by kernel_rfl) (fun _ _ _ h => h) (by kernel_rfl) hHeld ?_
        simp only [Act.put, List.setIfInBounds_toArray, List.set_cons_zero, List.set_cons_succ]
        refine held_skip 14 34 rfl rfl (by kernel_rfl) (by kernel_rfl) (by kernel_rfl) (fun _ _ _ h => h) (by kernel_rfl) hHeld ?_
        simp only [Act.put, List.setIfInBounds_toArray, List.set_cons_zero, List.set_cons_succ]
        refine held_skip 15 35 rfl rfl (by kernel_rfl) (by kernel_rfl) (by kernel_rfl) (fun _ _ _ h => h) (by kernel_rfl) hHeld ?_
        simp only [Act.put, List.setIfInBounds_toArray, List.set_cons_zero, List.set_cons_succ]
        refine held_skip 16 36 rfl rfl (by kernel_rfl) (by kernel_rfl) (by kernel_rfl) (fun _ _ _ h => h) (by kernel_rfl) hHeld ?_
        simp only [Act.put, List.setIfInBounds_toArray, List.set_cons_zero, List.set_cons_succ]
        refine held_skip 17 37 rfl rfl (by kernel_rfl) (by kernel_rfl) (by kernel_rfl) (fun _ _ _ h => h) (by kernel_rfl) hHeld ?_
        simp only [Act.put, List.setIfInBounds_toArray, List.set_cons_zero, List.set_cons_succ]
        refine held_skip 18 38 rfl rfl (by kernel_rfl) (by kernel_rfl) (by kernel_rfl) (fun _ _ _ h => h) (by kernel_rfl) hHeld ?_
        simp only [Act.put, List.setIfInBounds_toArray, List.set_cons_zero, List.set_cons_succ]
        refine held_skip 19 39 rfl rfl (by kernel_rfl) (by kernel_rfl) (by kernel_rfl) (fun _ _ _ h => h) (by kernel_rfl) hHeld ?_
        simp only [Act.put, List.setIfInBounds_toArray, List.set_cons_zero, List.set_cons_succ]
        refine held_skip 20 40 rfl rfl (by kernel_rfl) (by kernel_rfl) (by kernel_rfl) (fun _ _ _ h => h) (by kernel_rfl) hHeld ?_
        simp only [Act.put, List.setIfInBounds_toArray, List.set_cons_zero, List.set_cons_succ]
        refine held_skip 21 41 rfl rfl (by kernel_rfl) (by kernel_rfl) (by kernel_rfl) (fun _ _ _ h => h) (by kernel_rfl) hHeld ?_
        simp only [Act.put, List.setIfInBounds_toArray, List.set_cons_zero, List.set_cons_succ]
        refine held_yes 22 42 (v := ?_) rfl rfl (by kernel_rfl) (by kernel_rfl) (by kernel_rfl) (fun _ _ _ h => h) (by kernel_rfl) ?hy22 hHeld ?hr22
        case hy22 => (intro w hSw; (try dsimp only at hSw); go_simp; try (with_reducible rfl))
        case hr22 =>
        simp only [Act.put, List.setIfInBounds_toArray, List.set_cons_zero, List.set_cons_succ]
        refine wpAnyH_done (by kernel_rfl) ?_ _
        obtain ⟨H0, H1, H2⟩ := hblk HG
        obtain ⟨d0, d1, d2⟩ := tag_cells H1
        obtain ⟨f0, f1, f2⟩ := tag_frozen H1
        obtain ⟨g0, g1, g2⟩ := tag_cells H2
        have HB := Lib.hid H1
        clear H0 H1 H2 hblk hcell m0 m1 m2
        go_wp2
        have hb := tag_put HB.out (x' := .int .u64 0) (y' := .bool false) (z' := .int .i64 0)
        obtain ⟨k0, k1, k2⟩ := tag_cells hb
        refine bodyPost_ret (v := .tuple #[.agg #[.int .u64 0, .bool false, .int .i64 0], .int .i64 12]) (by simp [results, Try.results55, go_sem, k0, k1, k2]) rfl ?_
        exact ⟨rfl, tag_grown (grown_trans G3 HG) (by omega)⟩
    · have hr := rd_no (f := f) (off := off) (fun hr => hmx (by rw [← hx]; exact hr.1))
      rw [hr.1, hr.2.1, hr.2.2.1, hr.2.2.2]
      rw [decide_eq_false hmx] at hun
      have HM := Lib.hid hmx
      obtain ⟨q1, q2, q3⟩ := t_no hmx
      rw [q1, q2, q3] at hun
      clear q1 q2 q3
      clear hr hx h0 hmx hin hload2
      go_enter Try.func55, Try.ntmps55
      go_wp2_with (first | (go_at_call 70; ((with_reducible refine (hin0 _ hg0).mono ?_); rintro e w1 ⟨rfl, hg1⟩; have HB1 := Lib.hid (two_first hg1); obtain ⟨m0, m1⟩ := two_cells HB1.out.1)) | (go_at_call 30; ((with_reducible refine (hload _ (grown_trans hg0 hg1)).mono ?_); rintro e w2 ⟨rfl, hg2⟩)) | (go_at_call 74; ((with_reducible refine (hun _).mono ?_); rintro e w3 ⟨rfl, hg3⟩)))
      have hga : w3.grownBy (w3.alloc (.cells #[.int .u64 0, .bool false, .int .i64 0] 78)) none := World.grownBy_alloc _ _ _
      have G3 := grown_trans hg0 (grown_trans hg1 (grown_trans hg2 (grown_trans hg3 hga)))
      have hblk : ∀ {wr : World}, (w3.alloc (.cells #[.int .u64 0, .bool false, .int .i64 0] 78)).grownBy wr none → wr.heap[w.heap.size]? = some (.cells #[.slice wa wn wc, .slice pa pn pc] 27 (0, 0)) ∧ wr.heap[w.heap.size + 1]? = some (.cells #[.int .u64 0, .bool false, .int .i64 0] 78 (0, 0)) ∧ wr.heap[w3.heap.size]? = some (.cells #[.int .u64 0, .bool false, .int .i64 0] 78 (0, 0)) := fun {wr} hg => by
        obtain ⟨z1, z2⟩ := two_first (grown_trans hg1 (grown_trans hg2 (grown_trans hg3 (grown_trans hga hg))))
        exact ⟨z1, z2, tag_first hg⟩
      go_quiet (fail)
      obtain ⟨w5, hw5⟩ : ∃ w5, w5 = (w3.alloc (.cells #[.int .u64 0, .bool false, .int .i64 0] 78)).drewN nq := ⟨_, rfl⟩
      have HG : (w3.alloc (.cells #[.int .u64 0, .bool false, .int .i64 0] 78)).grownBy w5 none := by rw [hw5]; exact grown_drewN _ _
      rw [← hw5]
      clear hw5
      obtain ⟨H0, H1, H2⟩ := hblk HG
      obtain ⟨d0, d1, d2⟩ := tag_cells H1
      obtain ⟨f0, f1, f2⟩ := tag_frozen H1
      have HB := Lib.hid H1
      clear H0 H1 H2 hblk
      go_wp2
      have hb := tag_put HB.out (x' := .int .u64 0) (y' := .bool false) (z' := .int .i64 0)
      obtain ⟨k0, k1, k2⟩ := tag_cells hb
      refine bodyPost_ret (v := .tuple #[.agg #[.int .u64 0, .bool false, .int .i64 0], .int .i64 12]) (by simp [results, Try.results55, go_sem, k0, k1, k2]) rfl ?_
      exact ⟨rfl, tag_grown (grown_trans G3 HG) (by omega)⟩
  · have hr := rd_no (f := f) (off := off) (fun hr => h0 (by have := hr.2.1; unfold inP at this ⊢; omega))
    rw [hr.1, hr.2.1, hr.2.2.1, hr.2.2.2]
    rw [decide_eq_false h0] at hin0
    clear hr hx h0 hin hload hload2 hun
    go_enter Try.func55, Try.ntmps55
    go_wp2_with (first | (go_at_call 70; ((with_reducible refine (hin0 _ hg0).mono ?_); rintro e w1 ⟨rfl, hg1⟩; have HB := Lib.hid (two_first hg1).2; obtain ⟨d0, d1, d2⟩ := tag_cells HB.out; obtain ⟨f0, f1, f2⟩ := tag_frozen HB.out)))
    have hb := tag_put HB.out (x' := .int .u64 0) (y' := .bool false) (z' := .int .i64 0)
    obtain ⟨k0, k1, k2⟩ := tag_cells hb
    refine bodyPost_ret (v := .tuple #[.agg #[.int .u64 0, .bool false, .int .i64 0], .int .i64 12]) (by simp [results, Try.results55, go_sem, k0, k1, k2]) rfl ?_
    exact ⟨rfl, tag_grown (grown_trans hg0 hg1) (by omega)⟩
end
end Go.Proofs.Ytkpopaadkfgjaaa
