/-
  Layer 6's plain answers: the contracts of check and Walk.
  Conditions: the plain Tx stands in memory; there are 131072 words at most.
-/
import Derived.Test.YtkpopaadkfgjaaaPhysE
import Derived.Test.YtkpopaadkfgjaaaTagD
import Derived.Test.YtkpopaadkfgjaaaLTx
import Derived.Test.YtkpopaadkfgjaaaLHead
import Derived.Test.YtkpopaadkfgjaaaLWord
namespace Go.Proofs.Ytkpopaadkfgjaaa
open Go.RowKit
set_option linter.unusedVariables false
set_option linter.unusedSimpArgs false

theorem info_rblk : (Try.prog.info? 80).map (fun i => (i.zero, i.size, i.bytes)) = some (some (.agg #[.int .u64 0, .int .u64 0, .bool false, .int .i64 0, .int .u64 0]), 5, 40) := by kernel_rfl
/-- 'append(l, b)': a block more. -/
theorem wpList_append_blk {w2 : World} {base k : Nat} {l : List Blk} {v : Value} (hkl : l.length = k) (hown : OwnB w2 base 80 v l) (hn : l.length ≤ 1000000) (hbase : base ≤ w2.heap.size) (b : Blk)
    {ops : Array Oper} {rest : List Oper} {o : Oper} {a : Act} {Q : Exit → Act → World → Prop} (hgd : o.guard = none) (s x : Operand)
    (ho : o.op = .call { callee := .builtin .append, args := #[s, x], argTypes := #[74, 74] })
    (hs : a.eval s = v) {m : Nat} (hx : a.eval x = .slice (some ⟨m, 0, none⟩) 1 1) (hm : m = w2.heap.size)
    (h : ∀ g cp w', OwnB w' base 80 (.slice (some ⟨g, 0, none⟩) (k + 1) cp) (l ++ [b]) → w2.grownBy w' v.ownBlock → (v.ownBlock = some g ∨ g = w2.heap.size + 1) → wpList Try.prog ops Q rest (a.put o.dst (.slice (some ⟨g, 0, none⟩) (k + 1) cp)) w') :
    wpList Try.prog ops Q (o :: rest) a (w2.alloc (.cells #[.int .u64 (b.off : Nat), .int .u64 (b.s : Nat), .bool b.u, .int .i64 b.o, .int .u64 (b.n : Nat)] 80)) := by
  subst hkl
  subst hm
  obtain ⟨i0, hi, hz0, hz1, hz2⟩ := info_parts info_rblk
  refine wpList_append_own_at _ hgd s x 74 ho base 80 i0 (.agg #[.int .u64 0, .int .u64 0, .bool false, .int .i64 0, .int .u64 0]) 5 40 Try.underlying74 hi hz0 hz1 hz2 rfl (by decide) v l.length (cellsB l) hs (World.ownsRow.alloc hown _) ⟨w2.heap.size, 0, none⟩ 1 1 b.row hx rfl (cells_five_new _ _ _ _ _ _ _) (by simp [Value.oneCell', Blk.row]) (by unfold maxLen; omega) (by omega) (by rw [World.size_alloc]; omega) fun v' w' h1 h2 _ h4 => ?_
  obtain ⟨g, cp, rfl⟩ := ownsRow_succ h1
  refine h g cp w' ?_ (grown_trans (World.grownBy_alloc _ _ _) h2) ?_
  · unfold OwnB
    rw [cellsB_snoc, List.length_append]
    exact h1
  · rw [World.size_alloc] at h4
    rcases h4 with h4 | h4
    · exact .inl h4.symm
    · right; injection h4
section
variable {w : World} {base : Nat} {wv pv : Value} {ws : List Nat} {l : List (Nat × Nat)}
theorem chk6_apply (hok : TxOk ws l) : chkN (txApply ws l) [] = chkN ws l := by
  have e : chkP (txApply ws l) [] ↔ chkP ws l := by
    unfold chkP
    rw [see_nil, see_nil, see_nil, see_nil, apply_get hok, apply_get hok, apply_get hok, apply_get hok, txApply_len]
  unfold chkN
  by_cases hc : chkP ws l
  · rw [if_pos hc, if_pos (e.2 hc)]
  · rw [if_neg hc, if_neg (fun hh => hc (e.1 hh))]
theorem txApply_lt {ws : List Nat} {l : List (Nat × Nat)} (hw : ∀ x ∈ ws, x < 18446744073709551616) (hl : ∀ p ∈ l, p.2 < 18446744073709551616) : ∀ x ∈ txApply ws l, x < 18446744073709551616 := by
  induction l generalizing ws with
  | nil => exact hw
  | cons p r ih =>
    show ∀ x ∈ txApply (put ws p.1 p.2) r, x < 18446744073709551616
    exact ih (put_lt hw (hl p List.mem_cons_self)) (fun q hq => hl q (List.mem_cons_of_mem _ hq))
theorem rcheck6_any (h : RTx w base wv pv ws l) (hbase : base ≤ w.heap.size) (hm : ws.length ≤ 131072) (hok : TxOk ws l) (hlt : ∀ x ∈ ws, x < 18446744073709551616) :
    Calls Try.prog 54 #[.agg #[wv, pv]] w fun e w' => e = .returned (.int .i64 (chkN ws l : Nat)) ∧ w.grownBy w' none := by
  obtain ⟨wa, wn, wc, hwv⟩ := wv_form h.words
  subst hwv
  obtain ⟨pa, pn, pc, hpv⟩ := pv_form h.puts
  subst hpv
  have hg0 : w.grownBy (w.alloc (.cells #[.slice wa wn wc, .slice pa pn pc] 27)) none := World.grownBy_alloc _ _ _
  have hap := rtxapply_any (h.later hg0) (Nat.le_trans hbase hg0.size) hm hok
  have hck := fun (w1 : World) (v : Value) (ho : OwnW w1 base v (txApply ws l)) => rcheck_any ho (by rw [txApply_len]; exact hm) (txApply_lt hlt hok.word)
  rw [chk6_apply hok] at hck
  go_enter Try.func54, Try.ntmps54
  go_wp2_with (first | (go_at_call 73; refine hap.mono ?_; rintro e w1 ⟨v, rfl, ho, hg1⟩) | (go_at_call 72; refine (hck _ _ ho).mono ?_; rintro e w2 ⟨rfl, hg2⟩))
  go_ret
  exact ⟨rfl, grown_trans hg0 (grown_trans hg1 hg2)⟩
theorem walks_bad {f : Nat → Nat} {N k : Nat} {ok : Bool} (hw : Walks f N ok) (hk : k ≤ N) (h : offs f k < f 16) (hb : ¬ bkP f (offs f k)) : ok = false := by
  rcases Nat.lt_or_ge k N with h3 | h3
  · exact absurd (hw.lt k h3).2 hb
  · obtain rfl : k = N := by omega
    cases ok
    · rfl
    · have h4 := hw.fin
      rw [if_pos rfl] at h4
      omega
theorem walks_end {f : Nat → Nat} {N k : Nat} {ok : Bool} (hw : Walks f N ok) (hk : k ≤ N) (h : ¬ offs f k < f 16) : k = N ∧ ok = true := by
  rcases Nat.lt_or_ge k N with h3 | h3
  · exact absurd (hw.lt k h3).1 h
  · obtain rfl : k = N := by omega
    cases ok
    · have h4 := hw.fin
      rw [if_neg (by simp)] at h4
      exact absurd h4.1 h
    · exact ⟨rfl, rfl⟩
/-- What holds at the head of Walk's loop: k blocks are told. -/
structure RwRel (w : World) (wv pv : Value) (f : Nat → Nat) (k : Nat) (v : Value) (wr : World) : Prop where
  since : w.grownBy wr none
  box : wr.heap[w.heap.size]? = some (.cells #[wv, pv] 27 (0, 0))
  row : OwnB wr (w.heap.size + 1) 80 v (blks f k)
theorem RwRel.next {w wr w4 w6 : World} {wv pv : Value} {f : Nat → Nat} {k : Nat} {v v' : Value} {b : Blk} (hs : w.grownBy wr none) (hb : wr.heap[w.heap.size]? = some (.cells #[wv, pv] 27 (0, 0))) (hbs : blks f (k + 1) = blks f k ++ [b])
    (hg4 : wr.grownBy w4 none) (hg6 : w4.grownBy w6 v.ownBlock) (ho : ∀ i, v.ownBlock = some i → w.heap.size + 1 ≤ i ∧ i < wr.heap.size) (hr : OwnB w6 (w.heap.size + 1) 80 v' (blks f k ++ [b])) : RwRel w wv pv f (k + 1) v' w6 := by
  refine ⟨grown_step (grown_trans hs hg4) hg6 (fun i hi => .inl (by have := (ho i hi).1; omega)), ?_, by rw [hbs]; exact hr⟩
  have h4 := (hg4.block _ (lt_of_block hb) (by simp)).trans hb
  exact (hg6.block _ (lt_of_block h4) (fun e => by have := (ho _ e.symm).1; omega)).trans h4
set_option maxHeartbeats 8000000 in
theorem rwalk_yes (h : RTx w base wv pv ws l) (hbase : base ≤ w.heap.size) (hm : ws.length ≤ 131072) (hl : l.length ≤ 1000000) (hok : TxOk ws l) (hlt : ∀ x ∈ ws, x < 18446744073709551616) {N : Nat} {ok : Bool} (hc : chkN ws l = 0) (hw : Walks (txSee ws l) N ok) (hN : N ≤ 1000000) :
    Calls Try.prog 32 #[.agg #[wv, pv]] w fun e w' => ∃ v, e = .returned (.tuple #[v, .int .i64 (wkE ok : Nat)]) ∧ OwnB w' w.heap.size 80 v (wkL (txSee ws l) N ok) ∧ w.grownBy w' none := by
  obtain ⟨wa, wn, wc, hwv⟩ := wv_form h.words
  subst hwv
  obtain ⟨pa, pn, pc, hpv⟩ := pv_form h.puts
  subst hpv
  have hg0 : w.grownBy (w.alloc (.cells #[.slice wa wn wc, .slice pa pn pc] 27)) none := World.grownBy_alloc _ _ _
  have hb0 : (w.alloc (.cells #[.slice wa wn wc, .slice pa pn pc] 27)).heap[w.heap.size]? = some (.cells #[.slice wa wn wc, .slice pa pn pc] 27 (0, 0)) := heap_alloc_new' _ _
  have hck := rcheck6_any (h.later hg0) (Nat.le_trans hbase hg0.size) hm hok hlt
  rw [hc] at hck
  simp only [show ((0 : Nat) : Int) = 0 from rfl] at hck
  have hltf := txSee_lt hlt hok
  have hl16 : ∀ (w1 : World) (hg : w.grownBy w1 none), Calls Try.prog 30 #[.agg #[.slice wa wn wc, .slice pa pn pc], .int .u64 16] w1 _ := fun w1 hg => rtxload_any (h.later hg) hm hl 16 (by decide)
  have hrd := fun (w1 : World) (hg : w.grownBy w1 none) (off : Nat) (ho : off < 18446744073709551616) => rtread_any (h.later hg) hm hl hltf off ho
  have hld := fun (w1 : World) (hg : w.grownBy w1 none) (off : Nat) (ho : off < 18446744073709551616) => rtxload_any (h.later hg) hm hl off ho
  obtain ⟨f, ef⟩ : ∃ f, txSee ws l = f := ⟨_, rfl⟩
  rw [ef] at hw hltf hrd hld hl16 ⊢
  have hz := hltf 16
  obtain ⟨z, ez⟩ : ∃ z, f 16 = z := ⟨_, rfl⟩
  simp only [ez] at hz hl16
  clear h
  go_enter Try.func32, Try.ntmps32
  go_wp2_with (go_at_call 54; (with_reducible refine hck.mono ?_); rintro e w1 ⟨rfl, hg1⟩)
  have R0 : RwRel w (.slice wa wn wc) (.slice pa pn pc) f 0 (.slice none 0 0) w1 := ⟨grown_trans hg0 hg1, (hg1.block _ (lt_of_block hb0) (by simp)).trans hb0, World.ownsRow_nil _ _ _ _⟩
  clear hb0 hck
  go_loopw [4, 5] (fun v i wr => ∃ k : Nat, k ≤ N ∧ i = .int .u64 (offs f k : Nat) ∧ RwRel w (.slice wa wn wc) (.slice pa pn pc) f k v wr) (fun _ i _ => z - (intOf i).toNat)
  case atStart => exact ⟨0, Nat.zero_le _, rfl, R0⟩
  case round =>
    obtain ⟨k, hk, rfl, Rk⟩ := hrel
    have hrow0 := Rk.row
    have G0 := Rk.since
    have HB := Lib.hid Rk.box
    obtain ⟨va, vc, rfl, _⟩ := hrow0.at_
    rw [blks_len] at hrow0 Rk ⊢
    obtain ⟨m0, m1⟩ := two_cells HB.out
    have hsz1 : w.heap.size + 1 ≤ wr.heap.size := by have := lt_of_block HB.out; omega
    have hown : ∀ i, (Value.slice va k vc).ownBlock = some i → w.heap.size + 1 ≤ i ∧ i < wr.heap.size := fun i hi => by
      obtain ⟨h1, cur, h2⟩ := row_block hrow0 hi
      exact ⟨h1, lt_of_block h2⟩
    have HO := Lib.hid hown
    clear hown
    have hlen' : (blks f k).length ≤ 1000000 := by rw [blks_len]; omega
    by_cases hk2 : offs f k < z
    · have ho : offs f k < 18446744073709551616 := by omega
      have hread := fun (w1 : World) (hg : w.grownBy w1 none) => hrd w1 hg (offs f k) ho
      by_cases hr : rdP f (offs f k)
      · obtain ⟨r1, r2, r3, r4⟩ := rd_yes hr
        rw [r1, r2, r3, r4] at hread
        simp only [show ((0 : Nat) : Int) = 0 from rfl] at hread
        have hb48 := mayW_size hr.1
        have hin := hr.2.1
        have hgood : bkP f (offs f k) → k < N ∧ offs f k + usz (f (offs f k)) = offs f (k + 1) ∧ offs f (k + 1) ≤ z ∧ blks f (k + 1) = blks f k ++ [bkAt f (offs f k)] := fun hb => by
          have h1 := bk_ge hb
          rw [ez] at h1
          have h2 : offs f (k + 1) = offs f k + usz (f (offs f k)) := rfl
          refine ⟨?_, rfl, by omega, blks_succ _ _⟩
          rcases Nat.lt_or_ge k N with h3 | h3
          · exact h3
          · have h4 := hw.fin
            obtain rfl : k = N := by omega
            cases ok
            · rw [if_neg (by simp)] at h4; exact absurd hb h4.2
            · rw [if_pos rfl, ez] at h4; omega
        obtain ⟨off2, eoff2⟩ : ∃ x, offs f (k + 1) = x := ⟨_, rfl⟩
        by_cases hu : uus (f (offs f k)) = true
        · obtain ⟨b8, eb8⟩ : ∃ x, offs f k + 8 = x := ⟨_, rfl⟩
          have hb64 : b8 < 18446744073709551616 := by unfold inP at hin; omega
          have hload := fun (w1 : World) (hg : w.grownBy w1 none) => hld w1 hg b8 hb64
          obtain ⟨n, en⟩ : ∃ x, f b8 = x := ⟨_, rfl⟩
          have hn64 := hltf b8
          rw [en] at hload hn64
          have hbk2 : bkAt f (offs f k) = ⟨offs f k, usz (f (offs f k)), true, uow (f (offs f k)), n⟩ := by
            unfold bkAt bkL
            rw [if_pos hu, eb8, en, hu]
          have hfitP : bkP f (offs f k) ↔ n + 40 ≤ usz (f (offs f k)) := by
            unfold bkP
            rw [eb8, en]
            exact ⟨fun h => h.2 hu, fun h => ⟨hr, fun _ => h⟩⟩
          rw [hu] at hread
          by_cases hfit : n + 40 ≤ usz (f (offs f k))
          · obtain ⟨hkN, hn1, hn3, hbs⟩ := hgood (hfitP.2 hfit)
            rw [hbk2] at hbs
            obtain ⟨off, eoff⟩ : ∃ x, offs f k = x := ⟨_, rfl⟩
            obtain ⟨s, es⟩ : ∃ x, usz (f (offs f k)) = x := ⟨_, rfl⟩
            obtain ⟨o, eo⟩ : ∃ x, uow (f (offs f k)) = x := ⟨_, rfl⟩
            rw [eoff] at es eo
            rw [eoff2] at hn1 hn3
            rw [eoff, es] at hn1 hb48 hfit
            rw [eoff, es, eo] at hread hbs
            rw [eoff] at hk2 ho eb8 ⊢
            have e1 : IntKind.u64.wrap ((off : Int) + (s : Int)) = (off2 : Nat) := by rw [IntKind.wrap_u64]; omega
            have e8 : IntKind.u64.wrap ((off : Int) + 8) = (b8 : Nat) := by rw [IntKind.wrap_u64]; omega
            have hneed := fun w => rneed_fits n (by omega) w
            have hle : ¬ (s : Int) < (needOf n : Nat) := by have := (need_leq (n := n) hb48.2.2.1 hb48.1).2 hfit; omega
            obtain ⟨m, em⟩ : ∃ m, needOf n = m := ⟨_, rfl⟩
            rw [em] at hle
            simp only [em] at hneed
            clear hgood hfitP hbk2 hu hr r1 r2 r3 r4 hin hfit em en eb8
            go_wp2_with (first | (go_at_call 30; ((with_reducible refine (hl16 _ G0).mono ?_); rintro e w2 ⟨rfl, hg2⟩; have B2 := Lib.hid ((hg2.block _ (lt_of_block HB.out) (by simp)).trans HB.out); obtain ⟨m0, m1⟩ := two_cells B2.out)) | (go_at_call 55; ((with_reducible refine (hread _ (grown_trans G0 hg2)).mono ?_); rintro e w3 ⟨rfl, hg3⟩; have hga := World.grownBy_alloc w3 (.cells #[.int .u64 s, .bool true, .int .i64 o] 78) none; have G3 := grown_trans hg2 (grown_trans hg3 hga); obtain ⟨x0, x1, x2⟩ := tag_cells (tag_first (grown_refl (w3.alloc (.cells #[.int .u64 s, .bool true, .int .i64 o] 78)) none)); have hgb := World.grownBy_alloc (w3.alloc (.cells #[.int .u64 s, .bool true, .int .i64 o] 78)) (.cells #[.int .u64 off, .int .u64 s, .bool true, .int .i64 o, .int .u64 0] 80) none; have G4 := grown_trans G3 hgb; have T4 := Lib.hid (tag_first hgb); obtain ⟨y0, y1, y2⟩ := tag_cells T4.out; have K4 := Lib.hid (five_first (grown_refl ((w3.alloc (.cells #[.int .u64 s, .bool true, .int .i64 o] 78)).alloc (.cells #[.int .u64 off, .int .u64 s, .bool true, .int .i64 o, .int .u64 0] 80)) none)); have hrow4 := hrow0.later G4; have B4 := Lib.hid ((G4.block _ (lt_of_block HB.out) (by simp)).trans HB.out); obtain ⟨m4, m5⟩ := two_cells B4.out)) | (go_at_call 30; ((with_reducible refine (hload _ (grown_trans G0 G4)).mono ?_); rintro e w5 ⟨rfl, hg5⟩; have T5 := Lib.hid ((hg5.block _ (lt_of_block T4.out) (by simp)).trans T4.out); have K5 := Lib.hid ((hg5.block _ (lt_of_block K4.out) (by simp)).trans K4.out); have e9 : ((w3.alloc (.cells #[.int .u64 s, .bool true, .int .i64 o] 78)).heap.size) = w3.heap.size + 1 := World.size_alloc _ _; have K5' := K5.out; rw [e9] at K5'; obtain ⟨d0, d1, d2, d3, d4⟩ := five_cells K5'; obtain ⟨f0, f1, f2, f3, f4⟩ := five_frozen K5'; have K6 := Lib.hid K5'; clear K5' e9)) | (go_at_call 56; ((with_reducible refine (hneed _).mono ?_); rintro e w7 ⟨rfl, hw7⟩; have hs5 := hg5.size; have hs4 := G4.size; have G7 : wr.grownBy w7 none := (by rw [← hw7]; exact grown_new (grown_trans (grown_any (grown_trans G4 hg5) _) (grown_set _ _ _ _)) (by have := (grown_trans hg2 hg3).size; omega)); have T7 := Lib.hid (show w7.heap[w3.heap.size]? = some (.cells #[.int .u64 s, .bool true, .int .i64 o] 78 (0, 0)) from (by rw [← hw7]; exact ((grown_set _ _ _ _).block _ (lt_of_block T5.out) (by simp)).trans T5.out)); have K7 := Lib.hid (show w7.heap[w3.heap.size + 1]? = some (.cells #[.int .u64 off, .int .u64 s, .bool true, .int .i64 o, .int .u64 n] 80 (0, 0)) from (by rw [← hw7, heap_setCell_same K6.out]; rfl)); obtain ⟨y0, y1, y2⟩ := tag_cells T7.out; obtain ⟨d0, d1, d2, d3, d4⟩ := five_cells K7.out; have hrow7 := hrow0.later G7; clear hw7)) | (at_builtin; go_must (refine wpList_append_blk (blks_len _ _) hrow7 hlen' (Nat.le_trans hsz1 G7.size) ⟨off, s, true, o, n⟩ rfl _ _ rfl rfl rfl (by simp) ?_); intro g cp w8 hrow8 hg8 hloc; have T8 := Lib.hid ((hg8.block _ (lt_of_block T7.out) (fun e => by have h1 := (HO.out _ e.symm).2; have h2 := (grown_trans hg2 hg3).size; omega)).trans T7.out); obtain ⟨z0, z1, z2⟩ := tag_cells T8.out))
            go_roundw
            case rel =>
              refine ⟨k + 1, hkN, by rw [eoff2], ?_⟩
              exact RwRel.next G0 HB.out hbs G7 hg8 HO.out hrow8
            case measure => simp [intOf]; omega
          · have hok2 := walks_bad hw hk (by rw [ez]; exact hk2) (fun h => hfit (hfitP.1 h))
            subst hok2
            obtain ⟨off, eoff⟩ : ∃ x, offs f k = x := ⟨_, rfl⟩
            obtain ⟨s, es⟩ : ∃ x, usz (f (offs f k)) = x := ⟨_, rfl⟩
            obtain ⟨o, eo⟩ : ∃ x, uow (f (offs f k)) = x := ⟨_, rfl⟩
            rw [eoff] at es eo
            rw [eoff, es] at hb48 hfit
            rw [eoff, es, eo] at hread
            rw [eoff] at hk2 ho eb8 ⊢
            have e8 : IntKind.u64.wrap ((off : Int) + 8) = (b8 : Nat) := by rw [IntKind.wrap_u64]; omega
            by_cases hbig : n + 55 < 18446744073709551616
            · have hneed := fun w => rneed_fits n hbig w
              have hle : (s : Int) < (needOf n : Nat) := by have := mt (need_leq (n := n) hb48.2.2.1 hb48.1).1 hfit; omega
              obtain ⟨m, em⟩ : ∃ m, needOf n = m := ⟨_, rfl⟩
              rw [em] at hle
              simp only [em] at hneed
              clear hgood hfitP hbk2 hu hr r1 r2 r3 r4 hin hfit em en eb8
              go_wp2_with (first | (go_at_call 30; ((with_reducible refine (hl16 _ G0).mono ?_); rintro e w2 ⟨rfl, hg2⟩; have B2 := Lib.hid ((hg2.block _ (lt_of_block HB.out) (by simp)).trans HB.out); obtain ⟨m0, m1⟩ := two_cells B2.out)) | (go_at_call 55; ((with_reducible refine (hread _ (grown_trans G0 hg2)).mono ?_); rintro e w3 ⟨rfl, hg3⟩; have hga := World.grownBy_alloc w3 (.cells #[.int .u64 s, .bool true, .int .i64 o] 78) none; have G3 := grown_trans hg2 (grown_trans hg3 hga); obtain ⟨x0, x1, x2⟩ := tag_cells (tag_first (grown_refl (w3.alloc (.cells #[.int .u64 s, .bool true, .int .i64 o] 78)) none)); have hgb := World.grownBy_alloc (w3.alloc (.cells #[.int .u64 s, .bool true, .int .i64 o] 78)) (.cells #[.int .u64 off, .int .u64 s, .bool true, .int .i64 o, .int .u64 0] 80) none; have G4 := grown_trans G3 hgb; have T4 := Lib.hid (tag_first hgb); obtain ⟨y0, y1, y2⟩ := tag_cells T4.out; have K4 := Lib.hid (five_first (grown_refl ((w3.alloc (.cells #[.int .u64 s, .bool true, .int .i64 o] 78)).alloc (.cells #[.int .u64 off, .int .u64 s, .bool true, .int .i64 o, .int .u64 0] 80)) none)); have hrow4 := hrow0.later G4; have B4 := Lib.hid ((G4.block _ (lt_of_block HB.out) (by simp)).trans HB.out); obtain ⟨m4, m5⟩ := two_cells B4.out)) | (go_at_call 30; ((with_reducible refine (hload _ (grown_trans G0 G4)).mono ?_); rintro e w5 ⟨rfl, hg5⟩; have T5 := Lib.hid ((hg5.block _ (lt_of_block T4.out) (by simp)).trans T4.out); have K5 := Lib.hid ((hg5.block _ (lt_of_block K4.out) (by simp)).trans K4.out); have e9 : ((w3.alloc (.cells #[.int .u64 s, .bool true, .int .i64 o] 78)).heap.size) = w3.heap.size + 1 := World.size_alloc _ _; have K5' := K5.out; rw [e9] at K5'; obtain ⟨d0, d1, d2, d3, d4⟩ := five_cells K5'; obtain ⟨f0, f1, f2, f3, f4⟩ := five_frozen K5'; have K6 := Lib.hid K5'; clear K5' e9)) | (go_at_call 56; ((with_reducible refine (hneed _).mono ?_); rintro e w7 ⟨rfl, hw7⟩; have hs5 := hg5.size; have hs4 := G4.size; have G7 : wr.grownBy w7 none := (by rw [← hw7]; exact grown_new (grown_trans (grown_any (grown_trans G4 hg5) _) (grown_set _ _ _ _)) (by have := (grown_trans hg2 hg3).size; omega)); have T7 := Lib.hid (show w7.heap[w3.heap.size]? = some (.cells #[.int .u64 s, .bool true, .int .i64 o] 78 (0, 0)) from (by rw [← hw7]; exact ((grown_set _ _ _ _).block _ (lt_of_block T5.out) (by simp)).trans T5.out)); have K7 := Lib.hid (show w7.heap[w3.heap.size + 1]? = some (.cells #[.int .u64 off, .int .u64 s, .bool true, .int .i64 o, .int .u64 n] 80 (0, 0)) from (by rw [← hw7, heap_setCell_same K6.out]; rfl)); obtain ⟨y0, y1, y2⟩ := tag_cells T7.out; obtain ⟨d0, d1, d2, d3, d4⟩ := five_cells K7.out; have hrow7 := hrow0.later G7; clear hw7)))
              go_ret2
              exact ⟨_, rfl, World.ownsRow_nil _ _ _ _, grown_trans G0 G7⟩
            · have hneed := fun w => rneed_high n hn64 (by omega) w
              clear hgood hfitP hbk2 hu hr r1 r2 r3 r4 hin hfit en eb8 hbig
              go_wp2_with (first | (go_at_call 30; ((with_reducible refine (hl16 _ G0).mono ?_); rintro e w2 ⟨rfl, hg2⟩; have B2 := Lib.hid ((hg2.block _ (lt_of_block HB.out) (by simp)).trans HB.out); obtain ⟨m0, m1⟩ := two_cells B2.out)) | (go_at_call 55; ((with_reducible refine (hread _ (grown_trans G0 hg2)).mono ?_); rintro e w3 ⟨rfl, hg3⟩; have hga := World.grownBy_alloc w3 (.cells #[.int .u64 s, .bool true, .int .i64 o] 78) none; have G3 := grown_trans hg2 (grown_trans hg3 hga); obtain ⟨x0, x1, x2⟩ := tag_cells (tag_first (grown_refl (w3.alloc (.cells #[.int .u64 s, .bool true, .int .i64 o] 78)) none)); have hgb := World.grownBy_alloc (w3.alloc (.cells #[.int .u64 s, .bool true, .int .i64 o] 78)) (.cells #[.int .u64 off, .int .u64 s, .bool true, .int .i64 o, .int .u64 0] 80) none; have G4 := grown_trans G3 hgb; have T4 := Lib.hid (tag_first hgb); obtain ⟨y0, y1, y2⟩ := tag_cells T4.out; have K4 := Lib.hid (five_first (grown_refl ((w3.alloc (.cells #[.int .u64 s, .bool true, .int .i64 o] 78)).alloc (.cells #[.int .u64 off, .int .u64 s, .bool true, .int .i64 o, .int .u64 0] 80)) none)); have hrow4 := hrow0.later G4; have B4 := Lib.hid ((G4.block _ (lt_of_block HB.out) (by simp)).trans HB.out); obtain ⟨m4, m5⟩ := two_cells B4.out)) | (go_at_call 30; ((with_reducible refine (hload _ (grown_trans G0 G4)).mono ?_); rintro e w5 ⟨rfl, hg5⟩; have T5 := Lib.hid ((hg5.block _ (lt_of_block T4.out) (by simp)).trans T4.out); have K5 := Lib.hid ((hg5.block _ (lt_of_block K4.out) (by simp)).trans K4.out); have e9 : ((w3.alloc (.cells #[.int .u64 s, .bool true, .int .i64 o] 78)).heap.size) = w3.heap.size + 1 := World.size_alloc _ _; have K5' := K5.out; rw [e9] at K5'; obtain ⟨d0, d1, d2, d3, d4⟩ := five_cells K5'; obtain ⟨f0, f1, f2, f3, f4⟩ := five_frozen K5'; have K6 := Lib.hid K5'; clear K5' e9)) | (go_at_call 56; ((with_reducible refine (hneed _).mono ?_); rintro e w7 ⟨rfl, hw7⟩; have hs5 := hg5.size; have hs4 := G4.size; have G7 : wr.grownBy w7 none := (by rw [← hw7]; exact grown_new (grown_trans (grown_any (grown_trans G4 hg5) _) (grown_set _ _ _ _)) (by have := (grown_trans hg2 hg3).size; omega)); have T7 := Lib.hid (show w7.heap[w3.heap.size]? = some (.cells #[.int .u64 s, .bool true, .int .i64 o] 78 (0, 0)) from (by rw [← hw7]; exact ((grown_set _ _ _ _).block _ (lt_of_block T5.out) (by simp)).trans T5.out)); have K7 := Lib.hid (show w7.heap[w3.heap.size + 1]? = some (.cells #[.int .u64 off, .int .u64 s, .bool true, .int .i64 o, .int .u64 n] 80 (0, 0)) from (by rw [← hw7, heap_setCell_same K6.out]; rfl)); obtain ⟨y0, y1, y2⟩ := tag_cells T7.out; obtain ⟨d0, d1, d2, d3, d4⟩ := five_cells K7.out; have hrow7 := hrow0.later G7; clear hw7)))
              go_ret2
              exact ⟨_, rfl, World.ownsRow_nil _ _ _ _, grown_trans G0 G7⟩
        · have hb : bkP f (offs f k) := ⟨hr, fun h => absurd h hu⟩
          obtain ⟨hkN, hn1, hn3, hbs⟩ := hgood hb
          have hbk : bkAt f (offs f k) = ⟨offs f k, usz (f (offs f k)), false, uow (f (offs f k)), 0⟩ := by
            unfold bkAt bkL
            rw [if_neg hu]
            simp only [Bool.not_eq_true] at hu
            rw [hu]
          rw [hbk] at hbs
          simp only [Bool.not_eq_true] at hu
          rw [hu] at hread
          obtain ⟨off, eoff⟩ : ∃ x, offs f k = x := ⟨_, rfl⟩
          obtain ⟨s, es⟩ : ∃ x, usz (f (offs f k)) = x := ⟨_, rfl⟩
          obtain ⟨o, eo⟩ : ∃ x, uow (f (offs f k)) = x := ⟨_, rfl⟩
          rw [eoff] at es eo
          rw [eoff2] at hn1 hn3
          rw [eoff, es] at hn1 hb48
          rw [eoff, es, eo] at hread hbs
          rw [eoff] at hk2 ho ⊢
          have e1 : IntKind.u64.wrap ((off : Int) + (s : Int)) = (off2 : Nat) := by rw [IntKind.wrap_u64]; omega
          clear hgood hb hbk hu hr r1 r2 r3 r4 hin
          go_wp2_with (first | (go_at_call 30; ((with_reducible refine (hl16 _ G0).mono ?_); rintro e w2 ⟨rfl, hg2⟩; have B2 := Lib.hid ((hg2.block _ (lt_of_block HB.out) (by simp)).trans HB.out); obtain ⟨m0, m1⟩ := two_cells B2.out)) | (go_at_call 55; ((with_reducible refine (hread _ (grown_trans G0 hg2)).mono ?_); rintro e w3 ⟨rfl, hg3⟩; have hga := World.grownBy_alloc w3 (.cells #[.int .u64 s, .bool false, .int .i64 o] 78) none; have G3 := grown_trans hg2 (grown_trans hg3 hga); obtain ⟨x0, x1, x2⟩ := tag_cells (tag_first (grown_refl (w3.alloc (.cells #[.int .u64 s, .bool false, .int .i64 o] 78)) none)); have hgb := World.grownBy_alloc (w3.alloc (.cells #[.int .u64 s, .bool false, .int .i64 o] 78)) (.cells #[.int .u64 off, .int .u64 s, .bool false, .int .i64 o, .int .u64 0] 80) none; have G4 := grown_trans G3 hgb; have T4 := Lib.hid (tag_first hgb); obtain ⟨y0, y1, y2⟩ := tag_cells T4.out; have K4 := Lib.hid (five_first (grown_refl ((w3.alloc (.cells #[.int .u64 s, .bool false, .int .i64 o] 78)).alloc (.cells #[.int .u64 off, .int .u64 s, .bool false, .int .i64 o, .int .u64 0] 80)) none)); have hrow4 := hrow0.later G4; have B4 := Lib.hid ((G4.block _ (lt_of_block HB.out) (by simp)).trans HB.out); obtain ⟨m4, m5⟩ := two_cells B4.out)) | (at_builtin; go_must (refine wpList_append_blk (blks_len _ _) hrow4 hlen' (Nat.le_trans hsz1 G4.size) ⟨off, s, false, o, 0⟩ rfl _ _ rfl rfl rfl (by simp) ?_); intro g cp w6 hrow6 hg6 hloc; have T6 := Lib.hid ((hg6.block _ (lt_of_block T4.out) (fun e => by have h1 := (HO.out _ e.symm).2; have h2 := (grown_trans hg2 hg3).size; omega)).trans T4.out); obtain ⟨z0, z1, z2⟩ := tag_cells T6.out))
          go_roundw
          case rel =>
            refine ⟨k + 1, hkN, by rw [eoff2], ?_⟩
            exact RwRel.next G0 HB.out hbs G4 hg6 HO.out hrow6
          case measure => simp [intOf]; omega
      · have hok2 := walks_bad hw hk (by rw [ez]; exact hk2) (fun h => hr h.1)
        subst hok2
        obtain ⟨r1, r2, r3, r4⟩ := rd_no hr
        rw [r1, r2, r3, r4] at hread
        simp only [show ((0 : Nat) : Int) = 0 from rfl, show ((12 : Nat) : Int) = 12 from rfl] at hread
        obtain ⟨off, eoff⟩ : ∃ x, offs f k = x := ⟨_, rfl⟩
        rw [eoff] at hread hk2 ho ⊢
        clear r1 r2 r3 r4 hr
        go_wp2_with (first | (go_at_call 30; ((with_reducible refine (hl16 _ G0).mono ?_); rintro e w2 ⟨rfl, hg2⟩; have B2 := Lib.hid ((hg2.block _ (lt_of_block HB.out) (by simp)).trans HB.out); obtain ⟨m0, m1⟩ := two_cells B2.out)) | (go_at_call 55; ((with_reducible refine (hread _ (grown_trans G0 hg2)).mono ?_); rintro e w3 ⟨rfl, hg3⟩; have hga := World.grownBy_alloc w3 (.cells #[.int .u64 0, .bool false, .int .i64 0] 78) none; have G3 := grown_trans hg2 (grown_trans hg3 hga); obtain ⟨x0, x1, x2⟩ := tag_cells (tag_first (grown_refl (w3.alloc (.cells #[.int .u64 0, .bool false, .int .i64 0] 78)) none)))))
        go_ret2
        exact ⟨_, rfl, World.ownsRow_nil _ _ _ _, grown_trans G0 G3⟩
    · obtain ⟨rfl, hok2⟩ := walks_end hw hk (by rw [ez]; exact hk2)
      subst hok2
      obtain ⟨off, eoff⟩ : ∃ x, offs f k = x := ⟨_, rfl⟩
      rw [eoff] at hk2 ⊢
      have hend : OwnB wr w.heap.size 80 (.slice va k vc) (wkL f k true) := hrow0.mono (Nat.le_succ _)
      have HEN := Lib.hid hend
      clear hend
      go_wp2_with (first | (go_at_call 30; ((with_reducible refine (hl16 _ G0).mono ?_); rintro e w2 ⟨rfl, hg2⟩; have B2 := Lib.hid ((hg2.block _ (lt_of_block HB.out) (by simp)).trans HB.out); obtain ⟨m0, m1⟩ := two_cells B2.out)))
      go_ret2
      exact ⟨_, rfl, HEN.out.later hg2, grown_trans G0 hg2⟩
end
end Go.Proofs.Ytkpopaadkfgjaaa
