/-
  Texts of one layer, one behind the other: memory, contracts of the functions, and what follows of them.
  Conditions: as each theorem says.
-/
import Derived.Test.YtkkkgikmeiocaaaLDig
import Derived.Test.YtkkkgikmeiocaaaLDih
import Derived.Test.YtkkkgikmeiocaaaLDif
import Derived.Test.YtkkkgikmeiocaaaLTxc
set_option linter.unusedVariables false
set_option linter.unusedSimpArgs false
namespace Go.Proofs.Ytkkkgikmeiocaaa
open Go.RowKit
set_option maxRecDepth 100000
def DF (w0 w : World) (T : Nat) (R : Option Nat) (ws : List Nat) (f : Nat → Nat) : Prop := 8 * ws.length = 4800 ∧ ∃ M B D l, Txs w0 w T M R B D ws l ∧ txSee ws l = f
section
variable {w0 w w' : World} {T : Nat} {R R' : Option Nat} {ws : List Nat} {f : Nat → Nat} {s : ByteArray} {p : Nat}
theorem DF.later (h : DF w0 w T R ws f) (hg : w.grownBy w' none) : DF w0 w' T R ws f := by
  obtain ⟨h0, M, B, D, l, h1, h2⟩ := h
  exact ⟨h0, M, B, D, l, h1.later hg, h2⟩
theorem DF.since (h : DF w0 w T R ws f) : w0.grownBy w none := by
  obtain ⟨h0, M, B, D, l, h1, h2⟩ := h
  exact h1.since
theorem DF.lt (h : DF w0 w T R ws f) (x : Nat) : f x < 18446744073709551616 := by
  obtain ⟨h0, M, B, D, l, h1, rfl⟩ := h
  exact txSee_lt h1.tx.seg.words h1.tx.ok x
theorem DF.lds (h : DF w0 w T R ws f) : TLd w (some ⟨T, 0, none⟩) f := by
  obtain ⟨h0, M, B, D, l, h1, rfl⟩ := h
  exact tld_any h1.tx
theorem df_store (h : DF w0 w T R ws f) {x v : Nat} (h8 : x % 8 = 0) (hx : x < 4800) (hv : v < 18446744073709551616) :
    Calls Try.prog 36 #[.pointer (some ⟨T, 0, none⟩), .int .u64 x, .int .u64 v] w fun e w' => e = .returned (.tuple #[]) ∧ ∃ R', DF w0 w' T R' ws (fun q => if q = x then v else f q) ∧ Keep w R w' R' := by
  obtain ⟨h0, M, B, D, l, h1, rfl⟩ := h
  refine (txstore_any h1.tx x v (by omega) hv).mono ?_
  rintro e w' ⟨rfl, ht⟩
  obtain ⟨R', h3, h4⟩ := step_keep h1 ht
  refine ⟨rfl, R', ⟨h0, M, B, D, _, h3, ?_⟩, h4⟩
  funext q
  exact see_stored ⟨h8, by omega⟩ q
theorem cfind_any {q : Option Addr} (hld : TLd w q f) (hs : s.size ≤ maxLen) :
    Calls Try.prog 10 #[.pointer q, .string s] w fun e w' => e = .returned (.tuple #[.int .u64 (fndN f s : Nat), .bool (stN f s).isSome]) ∧ w.grownBy w' none := by
  have hst := cstanding_any hld hs
  unfold fndN
  unfold stdV at hst
  clear hld
  cases e : stN f s with
  | none =>
    rw [e] at hst
    clear e
    dsimp only [Option.isSome] at hst ⊢
    go_enter Try.func10, Try.ntmps10
    go_wp2_with (first | (go_at_call 24; (with_reducible refine hst.mono ?_); rintro e w1 ⟨rfl, hg1⟩; have g1 : w1.grownBy (w1.alloc (.cells #[.int .u64 0, .int .u64 0, .int .u64 0, .int .u64 0] 65)) none := World.grownBy_alloc _ _ _; obtain ⟨c0, c1, c2, c3⟩ := four_cells (four_first (grown_refl (w1.alloc (.cells #[.int .u64 0, .int .u64 0, .int .u64 0, .int .u64 0] 65)) none))))
    go_ret2
    exact ⟨rfl, grown_trans hg1 g1⟩
  | some i =>
    rw [e] at hst
    unfold slV at hst
    clear e
    dsimp only [Option.isSome] at hst ⊢
    obtain ⟨d, ed⟩ : ∃ d, dAt i = d := ⟨_, rfl⟩
    rw [ed] at hst ⊢
    obtain ⟨x0, e0⟩ : ∃ x, f d = x := ⟨_, rfl⟩
    obtain ⟨x1, e1⟩ : ∃ x, f (d + 8) = x := ⟨_, rfl⟩
    obtain ⟨x2, e2⟩ : ∃ x, f (d + 16) = x := ⟨_, rfl⟩
    rw [e0, e1, e2] at hst
    rw [e2]
    clear ed e0 e1 e2
    go_enter Try.func10, Try.ntmps10
    go_wp2_with (first | (go_at_call 24; (with_reducible refine hst.mono ?_); rintro e w1 ⟨rfl, hg1⟩; have g1 : w1.grownBy (w1.alloc (.cells #[.int .u64 d, .int .u64 x0, .int .u64 x1, .int .u64 x2] 65)) none := World.grownBy_alloc _ _ _; obtain ⟨c0, c1, c2, c3⟩ := four_cells (four_first (grown_refl (w1.alloc (.cells #[.int .u64 d, .int .u64 x0, .int .u64 x1, .int .u64 x2] 65)) none))))
    go_ret2
    exact ⟨rfl, grown_trans hg1 g1⟩
theorem croomx_any {q : Option Addr} (hld : TLd w q f) (hs : s.size ≤ maxLen) :
    Calls Try.prog 12 #[.pointer q, .string s] w fun e w' => e = .returned (.int .i64 (roomN f s : Nat)) ∧ w.grownBy w' none := by
  have hrm := croom_any hld hs
  have hv : ∃ x0 x1 x2 x3 : Nat, rmV f s = .tuple #[.agg #[.int .u64 x0, .int .u64 x1, .int .u64 x2, .int .u64 x3], .int .i64 (roomN f s : Nat)] := by
    unfold rmV
    split
    · rename_i h; rw [h]; exact ⟨_, _, _, _, rfl⟩
    · exact ⟨0, 0, 0, 0, rfl⟩
  obtain ⟨x0, x1, x2, x3, hv⟩ := hv
  rw [hv] at hrm
  clear hv hld
  obtain ⟨r, er⟩ : ∃ r, roomN f s = r := ⟨_, rfl⟩
  rw [er] at hrm ⊢
  clear er
  go_enter Try.func12, Try.ntmps12
  go_wp2_with (first | (go_at_call 28; (with_reducible refine hrm.mono ?_); rintro e w1 ⟨rfl, hg1⟩; have g1 : w1.grownBy (w1.alloc (.cells #[.int .u64 x0, .int .u64 x1, .int .u64 x2, .int .u64 x3] 65)) none := World.grownBy_alloc _ _ _; obtain ⟨c0, c1, c2, c3⟩ := four_cells (four_first (grown_refl (w1.alloc (.cells #[.int .u64 x0, .int .u64 x1, .int .u64 x2, .int .u64 x3] 65)) none))))
  go_ret
  exact ⟨rfl, grown_trans hg1 g1⟩
theorem dfind_c (h : DF w0 w T R ws f) (hs : s.size ≤ maxLen) :
    Calls Try.prog 10 #[.pointer (some ⟨T, 0, none⟩), .string s] w fun e w' => e = .returned (.tuple #[.int .u64 (fndN f s : Nat), .bool (stN f s).isSome]) ∧ w.grownBy w' none := cfind_any h.lds hs
theorem droom_c (h : DF w0 w T R ws f) (hs : s.size ≤ maxLen) :
    Calls Try.prog 12 #[.pointer (some ⟨T, 0, none⟩), .string s] w fun e w' => e = .returned (.int .i64 (roomN f s : Nat)) ∧ w.grownBy w' none := croomx_any h.lds hs
theorem dfind_nil (w : World) (s : ByteArray) (hs : s.size ≤ maxLen) :
    Calls Try.prog 10 #[.pointer none, .string s] w fun e w' => e = .returned (.tuple #[.int .u64 0, .bool false]) ∧ w.grownBy w' none := by
  have := cfind_any (tld_nil w) hs
  have hn : stN (fun _ => 0) s = none := by
    unfold stN
    split
    · exact stF_none fun m _ _ _ hl => by have h2 : 1 < 0 := hl.2.1; omega
    · rfl
  unfold fndN at this
  rw [hn] at this
  exact this
theorem ddrop_c (h : DF w0 w T R ws f) (hs : s.size ≤ maxLen) :
    Calls Try.prog 20 #[.pointer (some ⟨T, 0, none⟩), .string s] w fun e w' => e = .returned (.bool (stN f s).isSome) ∧ ∃ R', DF w0 w' T R' ws (drpF f s) ∧ Keep w R w' R' := by
  have hst := cstanding_any h.lds hs
  unfold drpF
  unfold stdV at hst
  cases e : stN f s with
  | none =>
    rw [e] at hst
    clear e
    dsimp only [Option.isSome] at hst ⊢
    go_enter Try.func20, Try.ntmps20
    go_wp2_with (first | (go_at_call 24; (with_reducible refine hst.mono ?_); rintro e w1 ⟨rfl, hg1⟩; have g1 : w1.grownBy (w1.alloc (.cells #[.int .u64 0, .int .u64 0, .int .u64 0, .int .u64 0] 65)) none := World.grownBy_alloc _ _ _; obtain ⟨c0, c1, c2, c3⟩ := four_cells (four_first (grown_refl (w1.alloc (.cells #[.int .u64 0, .int .u64 0, .int .u64 0, .int .u64 0] 65)) none))))
    go_ret
    exact ⟨rfl, R, h.later (grown_trans hg1 g1), Keep.of_grown (grown_trans hg1 g1)⟩
  | some i =>
    have hi := stN_lt e
    rw [e] at hst
    unfold slV at hst
    clear e
    unfold dropD
    dsimp only [Option.isSome] at hst ⊢
    have hd : dAt i % 8 = 0 ∧ dAt i + 16 < 4000 := by unfold dAt; omega
    obtain ⟨d, ed⟩ : ∃ d, dAt i = d := ⟨_, rfl⟩
    rw [ed] at hst hd ⊢
    obtain ⟨x0, e0⟩ : ∃ x, f d = x := ⟨_, rfl⟩
    obtain ⟨x1, e1⟩ : ∃ x, f (d + 8) = x := ⟨_, rfl⟩
    obtain ⟨x2, e2⟩ : ∃ x, f (d + 16) = x := ⟨_, rfl⟩
    rw [e0, e1, e2] at hst
    have e16 : IntKind.u64.wrap ((d : Int) + 16) = ((d + 16 : Nat) : Int) := by rw [IntKind.wrap_u64]; omega
    have hds := fun (V : World) (hg : w.grownBy V none) => df_store (h.later hg) (x := d + 16) (v := 1) (by omega) (by omega) (by decide)
    obtain ⟨d16, ed16⟩ : ∃ q, d + 16 = q := ⟨_, rfl⟩
    simp only [ed16] at hds e16 ⊢
    have HDS : Hid (∀ V, w.grownBy V none → Calls Try.prog 36 #[.pointer (some ⟨T, 0, none⟩), .int .u64 d16, .int .u64 1] V _) := Lib.hid hds
    clear ed e0 e1 e2 hds ed16 hd hi h
    go_enter Try.func20, Try.ntmps20
    go_wp2_with (first
      | (go_at_call 24; (with_reducible refine hst.mono ?_); rintro e w1 ⟨rfl, hg1⟩; have g1 : w1.grownBy (w1.alloc (.cells #[.int .u64 d, .int .u64 x0, .int .u64 x1, .int .u64 x2] 65)) none := World.grownBy_alloc _ _ _; obtain ⟨c0, c1, c2, c3⟩ := four_cells (four_first (grown_refl (w1.alloc (.cells #[.int .u64 d, .int .u64 x0, .int .u64 x1, .int .u64 x2] 65)) none)))
      | (go_at_call 36; (with_reducible refine (HDS.out _ (grown_trans hg1 g1)).mono ?_); rintro e w2 ⟨rfl, R2, hD2, hK2⟩))
    go_ret
    exact ⟨rfl, R2, hD2, (Keep.of_grown (grown_trans hg1 g1)).trans hK2⟩
set_option maxHeartbeats 1000000 in
theorem dput_c (h : DF w0 w T R ws f) (hs : s.size ≤ maxLen) (hp : p < 18446744073709551616) :
    Calls Try.prog 19 #[.pointer (some ⟨T, 0, none⟩), .string s, .int .u64 (p : Nat)] w fun e w' => e = .returned (.int .i64 (putN f s p : Nat)) ∧ ∃ R', DF w0 w' T R' ws (putW f s p) ∧ Keep w R w' R' := by
  have hrm := croom_any h.lds hs
  have hsd := fun V => cstands_any p V
  unfold putW putN
  unfold rmV at hrm
  by_cases hr0 : roomN f s = 0
  · obtain ⟨hok, hno, i, hpl, hi⟩ := room_place hr0
    simp only [hr0, hpl] at hrm ⊢
    dsimp only [Option.getD] at hrm
    unfold slV at hrm
    rw [if_pos trivial] at hrm
    by_cases h1 : 1 < p
    · rw [if_neg (by decide), if_neg (by omega), if_pos rfl]
      simp only [decide_eq_true h1] at hsd
      have hpk := fun V => pack13 s hs V
      simp only [decide_eq_true hok] at hpk
      have hlo := loD_lt s
      obtain ⟨lo, elo⟩ : ∃ x, loD s = x := ⟨_, rfl⟩
      obtain ⟨hi', ehi⟩ : ∃ x, hiD s = x := ⟨_, rfl⟩
      rw [elo, ehi] at hpk hlo
      simp only [elo, ehi]
      have hd : dAt i % 8 = 0 ∧ dAt i + 16 < 4000 := by unfold dAt; omega
      have hPD : putD f i lo hi' p = fun q => if q = dAt i + 16 then p else if q = dAt i + 8 then hi' else if q = dAt i then lo else f q := rfl
      rw [hPD]
      clear hPD
      obtain ⟨d, ed⟩ : ∃ d, dAt i = d := ⟨_, rfl⟩
      simp only [ed] at hrm hd ⊢
      obtain ⟨x0, e0⟩ : ∃ x, f d = x := ⟨_, rfl⟩
      obtain ⟨x1, e1⟩ : ∃ x, f (d + 8) = x := ⟨_, rfl⟩
      obtain ⟨x2, e2⟩ : ∃ x, f (d + 16) = x := ⟨_, rfl⟩
      rw [e0, e1, e2] at hrm
      have e16 : IntKind.u64.wrap ((d : Int) + 16) = ((d + 16 : Nat) : Int) := by rw [IntKind.wrap_u64]; omega
      have e8 : IntKind.u64.wrap ((d : Int) + 8) = ((d + 8 : Nat) : Int) := by rw [IntKind.wrap_u64]; omega
      have hs0 := fun (V : World) (hg : w.grownBy V none) => df_store (h.later hg) (x := d) (v := lo) (by omega) (by omega) hlo.1
      have hs8 := fun (V : World) (R1 : Option Nat) (g : Nat → Nat) (hD : DF w0 V T R1 ws g) => df_store hD (x := d + 8) (v := hi') (by omega) (by omega) hlo.2
      have hs16 := fun (V : World) (R1 : Option Nat) (g : Nat → Nat) (hD : DF w0 V T R1 ws g) => df_store hD (x := d + 16) (v := p) (by omega) (by omega) hp
      obtain ⟨d16, ed16⟩ : ∃ q, d + 16 = q := ⟨_, rfl⟩
      obtain ⟨d8, ed8⟩ : ∃ q, d + 8 = q := ⟨_, rfl⟩
      simp only [ed16] at hs16 e16 ⊢
      simp only [ed8] at hs8 e8 ⊢
      have HS0 := Lib.hid hs0
      have HS8 := Lib.hid hs8
      have HS16 := Lib.hid hs16
      clear ed e0 e1 e2 hs0 hs8 hs16 ed8 ed16 hd hi h hlo elo ehi hok hno hpl hr0 h1
      go_enter Try.func19, Try.ntmps19
      go_wp2_with (first
        | (go_at_call 28; (with_reducible refine hrm.mono ?_); rintro e w1 ⟨rfl, hg1⟩; have g1 : w1.grownBy (w1.alloc (.cells #[.int .u64 d, .int .u64 x0, .int .u64 x1, .int .u64 x2] 65)) none := World.grownBy_alloc _ _ _; have hb1 := four_first (grown_refl (w1.alloc (.cells #[.int .u64 d, .int .u64 x0, .int .u64 x1, .int .u64 x2] 65)) none))
        | (go_at_call 32; (with_reducible refine (hsd _).mono ?_); rintro e w2 ⟨rfl, rfl⟩)
        | (go_at_call 35; (with_reducible refine (hpk _).mono ?_); rintro e w2 ⟨rfl, hg2⟩; have g2 : w2.grownBy (w2.alloc (.cells #[.int .u64 lo, .int .u64 hi'] 63)) none := World.grownBy_alloc _ _ _; have G2 := grown_trans hg1 (grown_trans g1 (grown_trans hg2 g2)); have hb2 := ((grown_trans hg2 g2).block _ (lt_of_block hb1) (by simp)).trans hb1; have hq2 := heap_alloc_new' w2 (.cells #[.int .u64 lo, .int .u64 hi'] 63); obtain ⟨c0, c1, c2, c3⟩ := four_cells hb2; obtain ⟨q0, q1, _, _⟩ := tx_cells hq2)
        | (go_at_call 36; (with_reducible refine (HS0.out _ G2).mono ?_); rintro e w3 ⟨rfl, R3, hD3, hK3⟩; have hb3 := hK3.far hb2 (by decide) (by decide); have hq3 := hK3.far hq2 (by decide) (by decide); obtain ⟨c0, c1, c2, c3⟩ := four_cells hb3; obtain ⟨q0, q1, _, _⟩ := tx_cells hq3)
        | (go_at_call 36; (with_reducible refine (HS8.out _ _ _ hD3).mono ?_); rintro e w4 ⟨rfl, R4, hD4, hK4⟩; have hb4 := hK4.far hb3 (by decide) (by decide); obtain ⟨c0, c1, c2, c3⟩ := four_cells hb4)
        | (go_at_call 36; (with_reducible refine (HS16.out _ _ _ hD4).mono ?_); rintro e w5 ⟨rfl, R5, hD5, hK5⟩))
      go_ret
      exact ⟨rfl, R5, hD5, (Keep.of_grown G2).trans (hK3.trans (hK4.trans hK5))⟩
    · rw [if_neg (by decide), if_pos (by omega), if_neg (by decide)]
      simp only [decide_eq_false h1] at hsd
      obtain ⟨x0, e0⟩ : ∃ x, dAt i = x := ⟨_, rfl⟩
      obtain ⟨x1, e1⟩ : ∃ x, f x0 = x := ⟨_, rfl⟩
      obtain ⟨x2, e2⟩ : ∃ x, f (x0 + 8) = x := ⟨_, rfl⟩
      obtain ⟨x3, e3⟩ : ∃ x, f (x0 + 16) = x := ⟨_, rfl⟩
      simp only [e0, e1, e2, e3] at hrm
      have H := Lib.hid h
      clear e0 e1 e2 e3 h hr0 hok hno hpl hi h1 hp
      go_enter Try.func19, Try.ntmps19
      go_wp2_with (first
        | (go_at_call 28; (with_reducible refine hrm.mono ?_); rintro e w1 ⟨rfl, hg1⟩; have g1 : w1.grownBy (w1.alloc (.cells #[.int .u64 x0, .int .u64 x1, .int .u64 x2, .int .u64 x3] 65)) none := World.grownBy_alloc _ _ _; obtain ⟨c0, c1, c2, c3⟩ := four_cells (four_first (grown_refl (w1.alloc (.cells #[.int .u64 x0, .int .u64 x1, .int .u64 x2, .int .u64 x3] 65)) none)))
        | (go_at_call 32; (with_reducible refine (hsd _).mono ?_); rintro e w2 ⟨rfl, rfl⟩))
      go_ret
      exact ⟨rfl, R, H.out.later (grown_trans hg1 g1), Keep.of_grown (grown_trans hg1 g1)⟩
  · rw [if_neg hr0] at hrm
    rw [if_pos hr0, if_neg hr0]
    obtain ⟨r, er⟩ : ∃ r, roomN f s = r := ⟨_, rfl⟩
    rw [er] at hrm hr0 ⊢
    have h1 : ((r : Int) != 0) = true := by simp; omega
    have h2 : ¬ (r : Int) = 0 := by omega
    have H := Lib.hid h
    clear er h hr0 hp
    go_enter Try.func19, Try.ntmps19
    go_wp2_with (first
      | (go_at_call 28; (with_reducible refine hrm.mono ?_); rintro e w1 ⟨rfl, hg1⟩; have g1 : w1.grownBy (w1.alloc (.cells #[.int .u64 0, .int .u64 0, .int .u64 0, .int .u64 0] 65)) none := World.grownBy_alloc _ _ _; obtain ⟨c0, c1, c2, c3⟩ := four_cells (four_first (grown_refl (w1.alloc (.cells #[.int .u64 0, .int .u64 0, .int .u64 0, .int .u64 0] 65)) none))))
    go_ret
    exact ⟨rfl, R, H.out.later (grown_trans hg1 g1), Keep.of_grown (grown_trans hg1 g1)⟩
theorem dnamed_c (h : DF w0 w T R ws f) (hp : p < 18446744073709551616) :
    Calls Try.prog 17 #[.pointer (some ⟨T, 0, none⟩), .int .u64 (p : Nat)] w fun e w' => e = .returned (.bool (nmdF f p 16 0)) ∧ w.grownBy w' none := cnamed_any h.lds p hp
theorem dall_c (h : DF w0 w T R ws f) :
    Calls Try.prog 15 #[.pointer (some ⟨T, 0, none⟩)] w fun e w' => ∃ v, e = .returned v ∧ OwnN w' w.heap.size 56 v (entK f 16) ∧ w.grownBy w' none := call13_any h.lds h.lt
end
end Go.Proofs.Ytkkkgikmeiocaaa
namespace Go.Proofs.Ytkkkgikmeiocaaa
open Go.RowKit
set_option maxRecDepth 100000
def NmD (h a b : Nat) : Prop := ∃ s, nmOk s ∧ hD s = h ∧ loD s = a ∧ hiD s = b
theorem nmD_one : OneH NmD := fun h h' a b ⟨s, s1, s2, s3, s4⟩ ⟨t, t1, t2, t3, t4⟩ => by
  have := nm_one s1 t1 (s3.trans t3.symm) (s4.trans t4.symm)
  rw [← s2, ← t2, this]
section
variable {f : Nat → Nat} {s d : ByteArray} {p i j : Nat}
theorem stN_ok (h : stN f s = some j) : nmOk s ∧ stF f (hD s) (loD s) (hiD s) 16 0 = some j ∧ liveD f (loD s) (hiD s) j := by
  unfold stN at h
  split at h
  · rename_i hk
    obtain ⟨m, _, _, _, h4, _⟩ := stF_some h
    exact ⟨hk, h, h4⟩
  · cases h
theorem stN_of (hs : nmOk s) : stN f s = stF f (hD s) (loD s) (hiD s) 16 0 := if_pos hs
theorem putW_is (h : putN f s p = 0) : nmOk s ∧ stN f s = none ∧ 1 < p ∧ ∃ i, plF f (hD s) 16 0 = some i ∧ putW f s p = putD f i (loD s) (hiD s) p := by
  have hr : roomN f s = 0 := by
    unfold putN at h
    split at h
    · rename_i h1; exact absurd h h1
    · rename_i h1; exact Decidable.of_not_not h1
  obtain ⟨h1, h2, i, h3, _⟩ := room_place hr
  refine ⟨h1, h2, ?_, i, h3, ?_⟩
  · unfold putN at h
    rw [if_neg (not_not_intro hr)] at h
    split at h
    · cases h
    · omega
  · unfold putW
    rw [if_pos h, h3]
theorem putW_not (h : putN f s p ≠ 0) : putW f s p = f := if_neg h
theorem ok_put (H : DirOk NmD f) : DirOk NmD (putW f s p) := by
  by_cases h : putN f s p = 0
  · obtain ⟨h1, h2, h3, i, h4, h5⟩ := putW_is h
    rw [h5]
    rw [stN_of h1] at h2
    exact H.put ⟨s, h1, rfl, rfl, rfl⟩ h2 h4 h3 nmD_one
  · rw [putW_not h]; exact H
theorem ok_drop (H : DirOk NmD f) : DirOk NmD (drpF f s) := by
  unfold drpF
  split
  · exact H.drop _
  · exact H
theorem st_new (h : putN f s p = 0) : ∃ j, stN (putW f s p) s = some j ∧ putW f s p (dAt j + 16) = p := by
  obtain ⟨h1, h2, h3, i, h4, h5⟩ := putW_is h
  rw [stN_of h1] at h2
  refine ⟨i, ?_, ?_⟩
  · rw [h5, stN_of h1]
    exact stand_new h2 h4 h3
  · rw [h5]
    exact putD_own.2.2
theorem words_ne (hs : nmOk s) (hd : nmOk d) (hne : s ≠ d) : ¬ (loD s = loD d ∧ hiD s = hiD d) := fun ⟨e1, e2⟩ => hne (nm_one hs hd e1 e2)
theorem st_put (hd : stN f d = some j) (hne : s ≠ d) : stN (putW f s p) d = some j ∧ putW f s p (dAt j + 16) = f (dAt j + 16) := by
  by_cases h : putN f s p = 0
  · obtain ⟨h1, h2, h3, i, h4, h5⟩ := putW_is h
    obtain ⟨d1, d2, d3⟩ := stN_ok hd
    obtain ⟨m, _, _, rfl, h6, _⟩ := plF_some h4
    have hij : (hD s + m) % 16 ≠ j := fun e => by
      have := d3.2.1
      rw [e] at h6
      omega
    rw [h5, stN_of d1]
    exact ⟨stand_put d2 hij (words_ne h1 d1 hne) h3, (putD_other (Ne.symm hij)).2.2⟩
  · rw [putW_not h]; exact ⟨hd, rfl⟩
theorem st_drop (hd : stN f d = some j) (hne : s ≠ d) : stN (drpF f s) d = some j ∧ drpF f s (dAt j + 16) = f (dAt j + 16) := by
  unfold drpF
  cases hs : stN f s with
  | none => exact ⟨hd, rfl⟩
  | some i =>
    obtain ⟨d1, d2, d3⟩ := stN_ok hd
    obtain ⟨s1, s2, s3⟩ := stN_ok hs
    have hij : i ≠ j := fun e => by
      subst e
      exact words_ne s1 d1 hne ⟨s3.2.2.1.symm.trans d3.2.2.1, s3.2.2.2.symm.trans d3.2.2.2⟩
    rw [stN_of d1]
    exact ⟨stand_drop d2 hij, (dropD_other (Ne.symm hij)).2.2⟩
theorem st_gone (H : DirOk NmD f) (hd : stN f d = some j) : stN (drpF f d) d = none := by
  obtain ⟨d1, d2, _⟩ := stN_ok hd
  unfold drpF
  rw [hd, stN_of d1]
  exact H.gone nmD_one ⟨d, d1, rfl, rfl, rfl⟩ d2
theorem put_there (hd : stN f d = some j) : putN f d p = 7 := by
  obtain ⟨d1, _, _⟩ := stN_ok hd
  have hr : roomN f d = 7 := by
    unfold roomN
    rw [if_neg (not_not_intro d1), if_pos (by rw [hd]; exact fun e => by cases e)]
  unfold putN
  rw [hr]
  rfl
theorem ok_zero (h : ∀ j, j < 16 → f (dAt j + 16) = 0) : DirOk NmD f := fun j hj hl => by
  rw [h j hj] at hl
  omega
end
end Go.Proofs.Ytkkkgikmeiocaaa
