/-
  What is taken has zeros, whatever stood there; its bytes are within its block, and begin on the multiple. The statement CarveZeros; no condition.
-/
import Derived.Test.YtoamlkljfmgomaaGreatCarAc
import Derived.Test.YtoamlkljfmgomaaGreatCarW
import Derived.BigQuiet
import Derived.Deep.RegionHeld3
namespace Go.Proofs.YtoamlkljfmgomaaGreat.carveZeros
open Go.ChangeShapes Go.WideShapes Go.ChangeAt Go.RowKit
set_option linter.unusedVariables false
set_option linter.unusedSimpArgs false
set_option maxRecDepth 100000

/-! ### stores within the one free block -/
theorem first_put {ws : List Nat} {l : List (Nat × Nat)} {off v : Nat} (hws : 8 * ws.length = 4800) (h : SoundF (txSee ws l) 4800 [freeB 3776 1024] (fun _ => [])) (h1 : 3800 ≤ off) (h2 : off < 4792) : SoundF (txSee ws (txStore ws l off v)) 4800 [freeB 3776 1024] (fun _ => []) := by
  by_cases h8 : off % 8 = 0
  · have hsee := see_off (l := l) (v := v) hws h8 (by omega)
    have hS : Stay (txSee ws l) (txSee ws (txStore ws l off v)) 3800 4792 [] := Stay.put h1 h2 hsee
    have hx : ∀ x, (x < 3800 ∨ 4792 ≤ x) → txSee ws (txStore ws l off v) x = txSee ws l x := fun x hx => by rw [hsee, if_neg (by omega)]
    refine HeapF.sound ⟨hS.headOk (by omega) (by simp) h.head, (hx 16 (by omega)).trans h.top, h.low, ?_, ?_⟩ h.merged ?_ h.whose
    · refine h.told.congr fun x hm => ?_
      rw [List.mem_singleton.1 hm]
      exact ⟨hx 3776 (by omega), hx 4792 (by omega), fun e => by cases e⟩
    · refine h.heap.hung.congr (hx 32 (by omega)) fun x hm => ?_
      have e : x = 3776 := List.mem_singleton.1 hm
      subst e
      exact ⟨hx 3776 (by omega), hx 3784 (by omega), hx 3792 (by omega)⟩
    · exact h.ledg.stay hS (by omega) (by simp) fun x hm => by cases hm
  · have e : txStore ws l off v = l := by
      unfold txStore
      exact if_neg fun e => h8 e.1
    rw [e]
    exact h
section
variable {w0 w : World} {T : Nat} {R : Option Nat} {ws : List Nat} {E n a i p P owner : Nat} {bs : List Blk} {L : Nat → List Nat}
theorem hw_put (h : HW w0 w T R ws 4800 [freeB 3776 1024] (fun _ => [])) {off v : Nat} (h1 : 3800 ≤ off) (h2 : off < 4792) (hv : v < 18446744073709551616) :
    Calls Tryz.prog 17 #[.pointer (some ⟨T, 0, none⟩), .int .u64 off, .int .u64 v] w fun e w' => e = .returned (.tuple #[]) ∧ ∃ R', HW w0 w' T R' ws 4800 [freeB 3776 1024] (fun _ => []) := by
  obtain ⟨h0, M, B, D, l, h3, h4⟩ := h
  refine (txstore_any h3.tx off v (by omega) hv).mono ?_
  rintro e w' ⟨rfl, ht⟩
  obtain ⟨R', h5, _⟩ := h3.step ht
  exact ⟨rfl, R', h0, M, B, D, _, h5, first_put h0 h4 h1 h2⟩
/-! ### what was taken is found -/
theorem hz_found {N : Nat} (h : HZ w0 w T R ws E (takeB bs i P N owner n) L p n) (hp : p = gO bs i + P + 32) :
    ∃ s, n + 40 ≤ s ∧ s ≤ 1048576 ∧ Calls Tryz.prog 18 #[.pointer (some ⟨T, 0, none⟩), .int .u64 (p : Nat)] w fun e w' => e = .returned (.tuple #[.agg #[.int .u64 (gO bs i + P : Nat), .int .u64 (s : Nat), .bool true, .int .i64 (owner : Nat), .int .u64 (n : Nat)], .bool true]) ∧ w.grownBy w' none := by
  obtain ⟨s, hs⟩ : ∃ s, (if (bs.getD i default).s - P - N < 48 then (bs.getD i default).s - P else N) = s := ⟨_, rfl⟩
  have hm : (⟨gO bs i + P, s, true, owner, n⟩ : Blk) ∈ takeB bs i P N owner n := by
    unfold takeB cutB
    rw [hs]
    refine List.mem_append_left _ (List.mem_append_right _ (List.mem_append_right _ ?_))
    exact List.mem_cons_self
  have hf := hw_find_used h.heap hm rfl
  obtain ⟨h0, M, B, D, l, h1, h2⟩ := h.heap
  have hb := h2.told.is _ hm
  have hl := hb.len
  have hz := hb.size
  rw [if_pos rfl] at hl
  rw [← hp] at hf
  exact ⟨s, hl.2, (may_bounds hb.may).2.2.1, hf⟩
/-- A payload of n bytes with zeros, at p, and what Find tells of it. -/
def ZF (w0 w : World) (T : Nat) (R : Option Nat) (bs : List Blk) (L : Nat → List Nat) (p n : Nat) : Prop :=
  HZ w0 w T R (fmt48 4800) 4800 bs L p n ∧ ∃ x0 o s q1 q2 q3 : Nat, IntKind.u64.wrap ((p : Int) + (n : Int)) = (q1 : Nat) ∧ IntKind.u64.wrap ((x0 : Int) + (s : Int)) = (q2 : Nat) ∧ IntKind.u64.wrap ((q2 : Int) - 8) = (q3 : Nat) ∧ q1 ≤ q3 ∧
    Calls Tryz.prog 18 #[.pointer (some ⟨T, 0, none⟩), .int .u64 (p : Nat)] w fun e w' => e = .returned (.tuple #[.agg #[.int .u64 (x0 : Nat), .int .u64 (s : Nat), .bool true, .int .i64 (o : Nat), .int .u64 (n : Nat)], .bool true]) ∧ w.grownBy w' none
theorem z_take (h : HW w0 w T R (fmt48 4800) 4800 bs L) {a : Nat} (ha : alignP a) (hn : n < 300) (how : owner ≤ 8) :
    (Calls Tryz.prog 14 #[.pointer (some ⟨T, 0, none⟩), .int .i64 owner, .int .u64 n, .int .u64 a] w fun e w' => e = .returned (.tuple #[.int .u64 0, .int .i64 3]) ∧ w.grownBy w' none) ∨
    ∃ p : Nat, p < 1000000000 ∧ p % a = 0 ∧ Calls Tryz.prog 14 #[.pointer (some ⟨T, 0, none⟩), .int .i64 owner, .int .u64 n, .int .u64 a] w fun e w' => e = .returned (.tuple #[.int .u64 (p : Nat), .int .i64 0]) ∧ ∃ R' bs' L', ZF w0 w' T R' bs' L' p n := by
  have hal := ha.le
  cases hf : fitM bs n a with
  | none => exact .inl (hw_take_bad h (owner := owner) (by omega) (by omega) (by omega) (by omega) (fitErr_none ha (by omega) hf) (by decide))
  | some i =>
    refine .inr ⟨gO bs i + padN (gO bs i) a + 32, ?_, ?_, (hw_take_zero h ha (by omega) how hf).mono ?_⟩
    · have h1 := hw_bounds h i (fitM_is hf).1
      have h2 := (padN_al (off := gO bs i) ha h1.1).2
      omega
    · have h1 := hw_bounds h i (fitM_is hf).1
      have := (padN_is ha h1.1).1
      rwa [show gO bs i + padN (gO bs i) a + 32 = gO bs i + 32 + padN (gO bs i) a by omega]
    · rintro e w' ⟨rfl, R', Z, K⟩
      have h1 := hw_bounds h i (fitM_is hf).1
      have h2 := (padN_al (off := gO bs i) ha h1.1).2
      obtain ⟨s, h3, h4, hc⟩ := hz_found Z rfl
      refine ⟨rfl, R', _, _, Z, gO bs i + padN (gO bs i) a, owner, s, gO bs i + padN (gO bs i) a + 32 + n, gO bs i + padN (gO bs i) a + s, gO bs i + padN (gO bs i) a + s - 8, ?_, ?_, ?_, by omega, hc⟩
      · rw [IntKind.wrap_u64]; omega
      · rw [IntKind.wrap_u64]; omega
      · rw [IntKind.wrap_u64]; omega
end
set_option maxHeartbeats 16000000 in
theorem core {w : World} {la lb : Option Addr} {n c m cm : Nat} {X V O A N : Nat → Nat} (hp : PutsAt w la n X V) (hn : n ≤ maxLen) (hq : PiecesAt w lb m O A N) (hm : m ≤ maxLen) :
    Calls Tryz.prog 5 #[.slice la n c, .slice lb m cm] w fun e w' => e = .returned (.bool true) ∧ w.grownBy w' none := by
  have hfo : ∀ w, Calls Tryz.prog 16 #[.int .u64 4800, .slice none 0 0] w _ := fun w => formed10_nil 4800 (by decide) w
  unfold maxLen at hn hm
  go_enter Tryz.func5, Tryz.ntmps5
  go_wp2_with (first
    | (go_at_call 9; ((with_reducible refine (awake10 _).mono ?_); rintro e w1 ⟨rfl, hg1⟩))
    | (go_at_call 16; ((with_reducible refine (hfo _).mono ?_); rintro e w2 ⟨B, D, T, M, R, wv, pv, rfl, X2, hrt, hne⟩; obtain ⟨wa, wn, wc, hwv⟩ := wv_form hrt.words; subst hwv; obtain ⟨pa, pn, pc, hpv⟩ := pv_form hrt.puts; subst hpv)))
  have hg2 := World.grownBy_alloc w2 (.cells #[.slice wa wn wc, .slice pa pn pc] 54) none
  have H0 : HW w1 _ T R (fmt48 4800) 4800 [freeB 3776 1024] (fun _ => []) := ⟨by rw [fmt48_len], M, B, D, [], X2.later hg2, sound_first⟩
  obtain ⟨W3, hW3⟩ : ∃ W3, w2.alloc (.cells #[.slice wa wn wc, .slice pa pn pc] 54) = W3 := ⟨_, rfl⟩
  rw [hW3] at H0 ⊢
  clear hg2 X2 hrt hne hfo hW3
  go_loopw [8] (fun i wr => ∃ k : Nat, k ≤ 40 ∧ i = .int .i64 k ∧ ∃ R', HW w1 wr T R' (fmt48 4800) 4800 [freeB 3776 1024] (fun _ => [])) (fun i _ => 40 - (intOf i).toNat)
  case atStart => exact ⟨0, Nat.zero_le _, rfl, _, H0⟩
  case round =>
    obtain ⟨k, hk, rfl, R1, H1⟩ := hrel
    rename_i wr
    clear H0
    by_cases hlt : k < n ∧ k < 40
    · obtain ⟨h1, h2⟩ := hlt
      have hq1 : wr.grownBy wr.drew none := grown_drew (grown_refl _ _)
      obtain ⟨b, off, rfl, hb, hcs⟩ := (hp.later (grown_trans hg1 H1.since)).cells (by omega)
      obtain ⟨c1, c2⟩ := hcs k h1
      have hx := (hp.lt k).1
      have hv := (hp.lt k).2
      have i1 : (k : Int) < (n : Int) := by omega
      have i2 : (k : Int) < 40 := by omega
      obtain ⟨x, ex⟩ : ∃ x, X k = x := ⟨_, rfl⟩
      obtain ⟨v, ev⟩ : ∃ v, V k = v := ⟨_, rfl⟩
      rw [ex] at c1 hx
      rw [ev] at c2 hv
      clear hcs ex ev
      by_cases h3 : 3800 ≤ x
      · have i3 : (3800 : Int) ≤ (x : Int) := by omega
        by_cases h4 : x < 4792
        · have i4 : (x : Int) < 4792 := by omega
          have hst := hw_put (H1.later hq1) h3 h4 hv
          go_wp2
          go_still_tail 11, (by kernel_rfl)
          go_wp2_with (go_at_call 17; refine hst.mono ?_; rintro e v2 ⟨rfl, R5, H5⟩)
          go_roundw
          case rel => exact ⟨k + 1, by omega, by go_num, R5, H5⟩
          case measure => simp [intOf]; omega
        · have i4 : ¬ (x : Int) < 4792 := by omega
          go_wp2
          go_roundw
          case rel => exact ⟨k + 1, by omega, by go_num, R1, H1⟩
          case measure => simp [intOf]; omega
      · have i3 : ¬ (3800 : Int) ≤ (x : Int) := by omega
        go_wp2
        go_roundw
        case rel => exact ⟨k + 1, by omega, by go_num, R1, H1⟩
        case measure => simp [intOf]; omega
    · have hkd : ¬ ((k : Int) < (n : Int) ∧ (k : Int) < 40) := by omega
      have HW1 := Lib.hid H1
      have HPU := Lib.hid hp
      clear H1 hp
      rcases Nat.lt_or_ge k n with hkn | hkn
      · have ikn : (k : Int) < (n : Int) := by omega
        have ikd : ¬ (k : Int) < 40 := by omega
        clear hkn hkd hlt hk
        go_wp2
        go_loopw [9] (fun i wr => ∃ k : Nat, k ≤ 20 ∧ i = .int .i64 k ∧ ∃ R' bs L, HW w1 wr T R' (fmt48 4800) 4800 bs L) (fun i _ => 20 - (intOf i).toNat)
        case atStart => exact ⟨0, Nat.zero_le _, rfl, R1, _, _, HW1.out⟩
        case round =>
          obtain ⟨k, hk, rfl, R2, bs, L, H2⟩ := hrel
          by_cases hlt : k < m ∧ k < 20
          · obtain ⟨h1, h2⟩ := hlt
            obtain ⟨b, off, rfl, hbl, hcs⟩ := (hq.later (grown_trans hg1 H2.since)).cells (by omega)
            obtain ⟨q0, q1, q2⟩ := hcs k h1
            obtain ⟨l0, l1, l2⟩ := hq.lt k
            clear hcs
            have i1 : (k : Int) < (m : Int) := by omega
            have i2 : (k : Int) < 20 := by omega
            have ha := pow_align (A k)
            have eO : (O k : Int).tmod 9 = ((O k % 9 : Nat) : Int) := by rw [Int.tmod_eq_emod_of_nonneg (by omega)]; omega
            have eN : (N k : Int).tmod 300 = ((N k % 300 : Nat) : Int) := by rw [Int.tmod_eq_emod_of_nonneg (by omega)]; omega
            have eA : (A k : Int).tmod 4 = ((A k % 4 : Nat) : Int) := by rw [Int.tmod_eq_emod_of_nonneg (by omega)]; omega
            obtain ⟨a, ea⟩ : ∃ a, 16 * 2 ^ (A k % 4) = a := ⟨_, rfl⟩
            obtain ⟨r4, er4⟩ : ∃ r4, A k % 4 = r4 := ⟨_, rfl⟩
            obtain ⟨o9, eo9⟩ : ∃ o9, O k % 9 = o9 := ⟨_, rfl⟩
            obtain ⟨n3, en3⟩ : ∃ n3, N k % 300 = n3 := ⟨_, rfl⟩
            have b9 : o9 < 9 := by omega
            have b3 : n3 < 300 := by omega
            have b4 : r4 < 4 := by omega
            have ea' : 16 * 2 ^ r4 = a := by rw [← er4]; exact ea
            rw [ea] at ha
            rw [eo9] at eO
            rw [en3] at eN
            rw [er4] at eA
            have w9 : IntKind.i64.wrap (o9 : Int) = (o9 : Nat) := by rw [IntKind.wrap_i64]; omega
            have w3 : IntKind.u64.wrap (n3 : Int) = (n3 : Nat) := by rw [IntKind.wrap_u64]; omega
            have w4 : IntKind.u64.wrap (r4 : Int) = (r4 : Nat) := by rw [IntKind.wrap_u64]; omega
            have eSh : IntKind.u64.wrap ((16 : Int) * 2 ^ r4) = (a : Nat) := by
              rw [← ea']
              rcases (show r4 = 0 ∨ r4 = 1 ∨ r4 = 2 ∨ r4 = 3 by omega) with rfl | rfl | rfl | rfl <;> rfl
            have hz := z_take H2 ha b3 (show o9 ≤ 8 by omega)
            have hal := ha.le
            have ha16 : 0 < a := by unfold alignP at ha; omega
            have a0 : ¬ (a : Int) = 0 := by omega
            clear er4 eo9 en3 ea ea' l0 l1 l2 ha hal
            rcases hz with hz | ⟨p, hpb, hpa, hz⟩
            · go_wp2_with (first
                | (go_at_call 14; ((with_reducible refine hz.mono ?_); rintro e w5 ⟨rfl, hg5⟩)))
              go_roundw
              case rel => exact ⟨k + 1, by omega, by go_num, R2, bs, L, H2.later hg5⟩
              case measure => simp [intOf]; omega
            · have pm : (p : Int).tmod (a : Int) = 0 := by rw [Int.tmod_eq_emod_of_nonneg (by omega)]; omega
              have HB3 := Lib.hid b3
              have HPA := Lib.hid hpa
              clear hpa
              go_wp2_with (first
                | (go_at_call 14; ((with_reducible refine hz.mono ?_); rintro e w5 ⟨rfl, R5, bs5, L5, Z5, x0, o5, s, q1, q2, q3, z1, z2, z3, zle, hfnd⟩; have zi : ¬ (q3 : Int) < (q1 : Int) := (by omega); have zd : decide ((q3 : Int) < (q1 : Int)) = false := decide_eq_false zi; have zn : decide (q3 < q1) = false := decide_eq_false (Nat.not_lt.2 zle)))
                | (go_at_call 18; ((with_reducible refine hfnd.mono ?_); rintro e w6 ⟨rfl, hg6⟩; have ga6 := World.grownBy_alloc w6 (.cells #[.int .u64 (x0 : Nat), .int .u64 (s : Nat), .bool true, .int .i64 (o5 : Nat), .int .u64 (n3 : Nat)] 66) none; obtain ⟨y0, y1, y2, y3, y4⟩ := five_cells (heap_alloc_new' w6 (.cells #[.int .u64 (x0 : Nat), .int .u64 (s : Nat), .bool true, .int .i64 (o5 : Nat), .int .u64 (n3 : Nat)] 66)); have Z6 : HZ w1 _ T R5 (fmt48 4800) 4800 bs5 L5 p n3 := Z5.later (grown_trans hg6 ga6))))
              obtain ⟨W6, hW6⟩ : ∃ W6, w6.alloc (.cells #[.int .u64 (x0 : Nat), .int .u64 (s : Nat), .bool true, .int .i64 (o5 : Nat), .int .u64 (n3 : Nat)] 66) = W6 := ⟨_, rfl⟩
              rw [hW6] at Z6 ⊢
              try rw [zn]
              clear ga6 hW6 y0 y1 y2 y3 y4 Z5 hfnd hz z1 z2 z3 zle zi zd zn H2
              have hrw := fun V => rwords_any n3 (by have := HB3.out; omega) V
              obtain ⟨M3, hM3⟩ : ∃ M3, (n3 + 7) / 8 = M3 := ⟨_, rfl⟩
              have hld := fun (V : World) (hV : W6.grownBy V none) (j : Nat) (hj : j < (n3 + 7) / 8) => hz_load (Z6.later hV) hj (by have := HB3.out; omega)
              rw [hM3] at hrw hld
              have hMb : M3 < 100 := by have := HB3.out; omega
              clear hM3
              go_loopw [16] (fun i wr => ∃ j : Nat, j ≤ M3 ∧ i = .int .u64 j ∧ W6.grownBy wr none) (fun i _ => M3 - (intOf i).toNat)
              case atStart => exact ⟨0, Nat.zero_le _, rfl, grown_refl _ _⟩
              case round =>
                obtain ⟨j, hj, rfl, hg⟩ := hrel
                by_cases hjl : j < M3
                · have ij : (j : Int) < (M3 : Int) := by omega
                  have hl := hld _ hg j hjl
                  obtain ⟨pj, hpj⟩ : ∃ pj, p + 8 * j = pj := ⟨_, rfl⟩
                  obtain ⟨j8, hj8⟩ : ∃ j8, 8 * j = j8 := ⟨_, rfl⟩
                  rw [hpj] at hl
                  have e8 : IntKind.u64.wrap (8 * (j : Int)) = (j8 : Nat) := by rw [IntKind.wrap_u64]; omega
                  have ep : IntKind.u64.wrap ((p : Int) + (j8 : Int)) = (pj : Nat) := by rw [IntKind.wrap_u64]; omega
                  have e1 : IntKind.u64.wrap ((j : Int) + 1) = ((j + 1 : Nat) : Int) := by rw [IntKind.wrap_u64]; omega
                  clear hpj hj8
                  go_wp2_with (first
                    | (go_at_call 19; ((with_reducible refine (hrw _).mono ?_); rintro e w7 ⟨rfl, rfl⟩))
                    | (go_at_call 20; ((with_reducible refine hl.mono ?_); rintro e w8 ⟨rfl, hg8⟩)))
                  go_roundw
                  case rel => exact ⟨j + 1, by omega, by go_num, grown_trans hg hg8⟩
                  case measure => simp [intOf]; omega
                · have ij : ¬ (j : Int) < (M3 : Int) := by omega
                  go_wp2_with (first
                    | (go_at_call 19; ((with_reducible refine (hrw _).mono ?_); rintro e w7 ⟨rfl, rfl⟩)))
                  go_roundw
                  case rel => exact ⟨k + 1, by omega, by go_num, R5, bs5, L5, Z6.heap.later hg⟩
                  case measure => simp [intOf]; omega
          · have hkd : ¬ ((k : Int) < (m : Int) ∧ (k : Int) < 20) := by omega
            have hend := grown_trans hg1 H2.since
            rcases Nat.lt_or_ge k m with hkn | hkn
            · have ikn : (k : Int) < (m : Int) := by omega
              have ikd : ¬ (k : Int) < 20 := by omega
              clear hkn hkd hlt hk
              go_wp2
              go_ret
              exact ⟨rfl, hend⟩
            · have ikn : ¬ (k : Int) < (m : Int) := by omega
              clear hkn hkd hlt hk
              go_wp2
              go_ret
              exact ⟨rfl, hend⟩
      · have ikn : ¬ (k : Int) < (n : Int) := by omega
        clear hkn hkd hlt hk
        go_wp2
        go_loopw [9] (fun i wr => ∃ k : Nat, k ≤ 20 ∧ i = .int .i64 k ∧ ∃ R' bs L, HW w1 wr T R' (fmt48 4800) 4800 bs L) (fun i _ => 20 - (intOf i).toNat)
        case atStart => exact ⟨0, Nat.zero_le _, rfl, R1, _, _, HW1.out⟩
        case round =>
          obtain ⟨k, hk, rfl, R2, bs, L, H2⟩ := hrel
          by_cases hlt : k < m ∧ k < 20
          · obtain ⟨h1, h2⟩ := hlt
            obtain ⟨b, off, rfl, hbl, hcs⟩ := (hq.later (grown_trans hg1 H2.since)).cells (by omega)
            obtain ⟨q0, q1, q2⟩ := hcs k h1
            obtain ⟨l0, l1, l2⟩ := hq.lt k
            clear hcs
            have i1 : (k : Int) < (m : Int) := by omega
            have i2 : (k : Int) < 20 := by omega
            have ha := pow_align (A k)
            have eO : (O k : Int).tmod 9 = ((O k % 9 : Nat) : Int) := by rw [Int.tmod_eq_emod_of_nonneg (by omega)]; omega
            have eN : (N k : Int).tmod 300 = ((N k % 300 : Nat) : Int) := by rw [Int.tmod_eq_emod_of_nonneg (by omega)]; omega
            have eA : (A k : Int).tmod 4 = ((A k % 4 : Nat) : Int) := by rw [Int.tmod_eq_emod_of_nonneg (by omega)]; omega
            obtain ⟨a, ea⟩ : ∃ a, 16 * 2 ^ (A k % 4) = a := ⟨_, rfl⟩
            obtain ⟨r4, er4⟩ : ∃ r4, A k % 4 = r4 := ⟨_, rfl⟩
            obtain ⟨o9, eo9⟩ : ∃ o9, O k % 9 = o9 := ⟨_, rfl⟩
            obtain ⟨n3, en3⟩ : ∃ n3, N k % 300 = n3 := ⟨_, rfl⟩
            have b9 : o9 < 9 := by omega
            have b3 : n3 < 300 := by omega
            have b4 : r4 < 4 := by omega
            have ea' : 16 * 2 ^ r4 = a := by rw [← er4]; exact ea
            rw [ea] at ha
            rw [eo9] at eO
            rw [en3] at eN
            rw [er4] at eA
            have w9 : IntKind.i64.wrap (o9 : Int) = (o9 : Nat) := by rw [IntKind.wrap_i64]; omega
            have w3 : IntKind.u64.wrap (n3 : Int) = (n3 : Nat) := by rw [IntKind.wrap_u64]; omega
            have w4 : IntKind.u64.wrap (r4 : Int) = (r4 : Nat) := by rw [IntKind.wrap_u64]; omega
            have eSh : IntKind.u64.wrap ((16 : Int) * 2 ^ r4) = (a : Nat) := by
              rw [← ea']
              rcases (show r4 = 0 ∨ r4 = 1 ∨ r4 = 2 ∨ r4 = 3 by omega) with rfl | rfl | rfl | rfl <;> rfl
            have hz := z_take H2 ha b3 (show o9 ≤ 8 by omega)
            have hal := ha.le
            have ha16 : 0 < a := by unfold alignP at ha; omega
            have a0 : ¬ (a : Int) = 0 := by omega
            clear er4 eo9 en3 ea ea' l0 l1 l2 ha hal
            rcases hz with hz | ⟨p, hpb, hpa, hz⟩
            · go_wp2_with (first
                | (go_at_call 14; ((with_reducible refine hz.mono ?_); rintro e w5 ⟨rfl, hg5⟩)))
              go_roundw
              case rel => exact ⟨k + 1, by omega, by go_num, R2, bs, L, H2.later hg5⟩
              case measure => simp [intOf]; omega
            · have pm : (p : Int).tmod (a : Int) = 0 := by rw [Int.tmod_eq_emod_of_nonneg (by omega)]; omega
              have HB3 := Lib.hid b3
              have HPA := Lib.hid hpa
              clear hpa
              go_wp2_with (first
                | (go_at_call 14; ((with_reducible refine hz.mono ?_); rintro e w5 ⟨rfl, R5, bs5, L5, Z5, x0, o5, s, q1, q2, q3, z1, z2, z3, zle, hfnd⟩; have zi : ¬ (q3 : Int) < (q1 : Int) := (by omega); have zd : decide ((q3 : Int) < (q1 : Int)) = false := decide_eq_false zi; have zn : decide (q3 < q1) = false := decide_eq_false (Nat.not_lt.2 zle)))
                | (go_at_call 18; ((with_reducible refine hfnd.mono ?_); rintro e w6 ⟨rfl, hg6⟩; have ga6 := World.grownBy_alloc w6 (.cells #[.int .u64 (x0 : Nat), .int .u64 (s : Nat), .bool true, .int .i64 (o5 : Nat), .int .u64 (n3 : Nat)] 66) none; obtain ⟨y0, y1, y2, y3, y4⟩ := five_cells (heap_alloc_new' w6 (.cells #[.int .u64 (x0 : Nat), .int .u64 (s : Nat), .bool true, .int .i64 (o5 : Nat), .int .u64 (n3 : Nat)] 66)); have Z6 : HZ w1 _ T R5 (fmt48 4800) 4800 bs5 L5 p n3 := Z5.later (grown_trans hg6 ga6))))
              obtain ⟨W6, hW6⟩ : ∃ W6, w6.alloc (.cells #[.int .u64 (x0 : Nat), .int .u64 (s : Nat), .bool true, .int .i64 (o5 : Nat), .int .u64 (n3 : Nat)] 66) = W6 := ⟨_, rfl⟩
              rw [hW6] at Z6 ⊢
              try rw [zn]
              clear ga6 hW6 y0 y1 y2 y3 y4 Z5 hfnd hz z1 z2 z3 zle zi zd zn H2
              have hrw := fun V => rwords_any n3 (by have := HB3.out; omega) V
              obtain ⟨M3, hM3⟩ : ∃ M3, (n3 + 7) / 8 = M3 := ⟨_, rfl⟩
              have hld := fun (V : World) (hV : W6.grownBy V none) (j : Nat) (hj : j < (n3 + 7) / 8) => hz_load (Z6.later hV) hj (by have := HB3.out; omega)
              rw [hM3] at hrw hld
              have hMb : M3 < 100 := by have := HB3.out; omega
              clear hM3
              go_loopw [16] (fun i wr => ∃ j : Nat, j ≤ M3 ∧ i = .int .u64 j ∧ W6.grownBy wr none) (fun i _ => M3 - (intOf i).toNat)
              case atStart => exact ⟨0, Nat.zero_le _, rfl, grown_refl _ _⟩
              case round =>
                obtain ⟨j, hj, rfl, hg⟩ := hrel
                by_cases hjl : j < M3
                · have ij : (j : Int) < (M3 : Int) := by omega
                  have hl := hld _ hg j hjl
                  obtain ⟨pj, hpj⟩ : ∃ pj, p + 8 * j = pj := ⟨_, rfl⟩
                  obtain ⟨j8, hj8⟩ : ∃ j8, 8 * j = j8 := ⟨_, rfl⟩
                  rw [hpj] at hl
                  have e8 : IntKind.u64.wrap (8 * (j : Int)) = (j8 : Nat) := by rw [IntKind.wrap_u64]; omega
                  have ep : IntKind.u64.wrap ((p : Int) + (j8 : Int)) = (pj : Nat) := by rw [IntKind.wrap_u64]; omega
                  have e1 : IntKind.u64.wrap ((j : Int) + 1) = ((j + 1 : Nat) : Int) := by rw [IntKind.wrap_u64]; omega
                  clear hpj hj8
                  go_wp2_with (first
                    | (go_at_call 19; ((with_reducible refine (hrw _).mono ?_); rintro e w7 ⟨rfl, rfl⟩))
                    | (go_at_call 20; ((with_reducible refine hl.mono ?_); rintro e w8 ⟨rfl, hg8⟩)))
                  go_roundw
                  case rel => exact ⟨j + 1, by omega, by go_num, grown_trans hg hg8⟩
                  case measure => simp [intOf]; omega
                · have ij : ¬ (j : Int) < (M3 : Int) := by omega
                  go_wp2_with (first
                    | (go_at_call 19; ((with_reducible refine (hrw _).mono ?_); rintro e w7 ⟨rfl, rfl⟩)))
                  go_roundw
                  case rel => exact ⟨k + 1, by omega, by go_num, R5, bs5, L5, Z6.heap.later hg⟩
                  case measure => simp [intOf]; omega
          · have hkd : ¬ ((k : Int) < (m : Int) ∧ (k : Int) < 20) := by omega
            have hend := grown_trans hg1 H2.since
            rcases Nat.lt_or_ge k m with hkn | hkn
            · have ikn : (k : Int) < (m : Int) := by omega
              have ikd : ¬ (k : Int) < 20 := by omega
              clear hkn hkd hlt hk
              go_wp2
              go_ret
              exact ⟨rfl, hend⟩
            · have ikn : ¬ (k : Int) < (m : Int) := by omega
              clear hkn hkd hlt hk
              go_wp2
              go_ret
              exact ⟨rfl, hend⟩
theorem walk {w : World} {la lb : Option Addr} {n c m cm : Nat} {X V O A N : Nat → Nat} (hn : n ≤ maxLen) (hp : PutsAt w la n X V) (hcm : m ≤ cm) (hm : m ≤ maxLen) (hq : PiecesAt w lb m O A N) :
    Calls Tryz.prog 5 #[.slice la n c, .slice lb m cm] w fun e w' => e = .returned (.bool true) ∧ Below w.heap.size w w' :=
  (core hp hn hq hm).mono fun e w' ⟨h1, h2⟩ => ⟨h1, grown_below h2⟩
theorem laidOut : laidOutB Tryz.prog = true := by kernel_rfl
/-! ### The row's step: the guide's frame -/
theorem own : ownKnob Tryz.prog.godebug = none := by kernel_rfl
set_option maxRecDepth 100000 in
theorem lifted (os : Os) (started : os.Started) (H : Type) (enc : TypeId × Value → H) :
    ReturnsInHanded {} Tryz.checked os 5 .any (Rows.carveZerosSpec.pre6 enc Tryz.prog Tryz.f5 Rows.carveZerosRow.domain false) (Rows.carveZerosSpec.post enc Tryz.prog Tryz.f5 false true false false) := by
  refine returnsInHanded_of_change (C := Tryz.checked) own started (by kernel_rfl) Tryz.func5
    (ChangeSpec.witness6 (enc := enc) (C := Tryz.checked) false ⟨#[], #[.slice none 0 0, .slice none 0 0], []⟩ 8 (by kernel_rfl) (by kernel_rfl) (by kernel_rfl) (by kernel_rfl)) ?_
  intro W base args ds gs before hval0 hW hcnd _
  have hval : ∀ (j : Nat) t v, Tryz.f5.params[j]? = some t → args[j]? = some v → Value.okWide Tryz.prog W .any base t v := hval0
  have hW' := hW
  obtain ⟨p, q, hA0, hV, rfl, hfz, hnd⟩ := hW
  have hA : DataW.TrodAll enc Tryz.prog W 0 (fun _ => true) true Tryz.f5.params.toList args.toList ds p := hA0
  rw [Tryz.params5] at hA hval
  obtain ⟨v0, vs0, d0, ds0, p0, q0, hargs, rfl, rfl, h0, r0⟩ := trodAll_cons hA
  obtain ⟨v1, vs1, d1, ds1, p1, q1, rfl, rfl, rfl, h1, r1⟩ := trodAll_cons r0
  obtain ⟨rfl, rfl, rfl⟩ := trodAll_nil r1
  obtain rfl : args = #[v0, v1] := by cases args; simp_all
  obtain ⟨rfl, rfl⟩ := trodVars_none hV
  have lt0 : ∀ x ∈ p0, x.block < W.heap.size := by obtain ⟨m, hm⟩ := h0; exact DataW.trod_lt m _ _ _ hm
  obtain ⟨la0, n0, c0, X0, V0, rfl, hn0, hp0⟩ := open_puts (hval 0 52 v0 rfl rfl) h0
  have lt1 : ∀ x ∈ p1, x.block < W.heap.size := by obtain ⟨m, hm⟩ := h1; exact DataW.trod_lt m _ _ _ hm
  obtain ⟨la1, n1, c1, A1, B1, C1, rfl, hc1, hn1, hp1⟩ := open_asks (hval 1 22 v1 rfl rfl) h1
  clear hA0 hval0
  refine (walk hn0 hp0 hc1 hn1 hp1).mono fun e W' ⟨he, bel⟩ => ?_
  subst he
  exact ⟨_, rfl, _, _, _, [], _, [], hW', trodAll_mk1 (shut_bool Tryz.underlying4 _), (trodAll_cons_mk (Below.trod laidOut (by kernel_rfl) (of_decide_eq_true (by kernel_rfl)) h0 bel lt0) (trodAll_cons_mk (Below.trod laidOut (by kernel_rfl) (of_decide_eq_true (by kernel_rfl)) h1 bel lt1) trodAll_mk0)), rfl, bel.frame _, fun h => by cases h⟩

theorem over : Rows.carveZerosRow.holds Tryz.pinned (OpenSpec.ofChange Rows.carveZerosSpec) :=
  OpenClaim.holds_of_wide 5 Tryz.f5 rfl rfl rfl rfl rfl rfl rfl ⟨rfl, rfl, rfl, rfl, rfl⟩ rfl rfl rfl rfl rfl (by kernel_rfl) Tryz.func5 (by kernel_rfl)
    (of_decide_eq_true (by kernel_rfl)) (by unfold Func.isWrapper; first | (rw [if_pos (by decide +kernel)]; kernel_rfl) | (rw [if_neg (by decide +kernel)]; exact ⟨rfl, rfl⟩))
    (fun os started H enc _ => lifted os started H enc)

theorem proved : Rows.CarveZerosSaid :=
  over
#print axioms proved


end Go.Proofs.YtoamlkljfmgomaaGreat.carveZeros
